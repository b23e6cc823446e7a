/-
  A row with spare room behind it, and whether it is still as it was made.
-/
import Derived.Test.YtbndnaohjloanaaDoorLineD
import Derived.Test.YtbndnaohjloanaaDoorMixE
namespace Go.Proofs.YtbndnaohjloanaaDoor

open Go Go.RowKit

def tintC (i : Nat) : Cl := ⟨900 + (i : Int), 3, false⟩
def spareL (l : List Cl) : List Cl := l ++ (List.range 9).map (fun j => tintC (l.length + j))
theorem spareL_len (l : List Cl) : (spareL l).length = l.length + 9 := by simp [spareL]
theorem spareL_lo (l : List Cl) (i : Nat) (h : i < l.length) (h2 : i < (spareL l).length) : (spareL l)[i] = l[i] := by
  unfold spareL at *
  rw [List.getElem_append_left h]
theorem spareL_hi (l : List Cl) (i : Nat) (h : l.length ≤ i) (h2 : i < (spareL l).length) : (spareL l)[i] = tintC i := by
  unfold spareL at *
  rw [List.getElem_append_right h]
  simp only [List.getElem_map, List.getElem_range]
  rw [show l.length + (i - l.length) = i from by omega]
def fillT (l : List Cl) (i : Nat) : List Cl := (spareL l).take i ++ List.replicate (l.length + 9 - i) zeroC
theorem fillT_len (l : List Cl) (i : Nat) (h : i ≤ l.length + 9) : (fillT l i).length = l.length + 9 := by unfold fillT; simp [spareL_len]; omega
theorem fillT_zero (l : List Cl) : fillT l 0 = List.replicate (l.length + 9) zeroC := by simp [fillT]
theorem fillT_all (l : List Cl) : fillT l (l.length + 9) = spareL l := by unfold fillT; rw [Nat.sub_self]; simp [List.take_of_length_le (Nat.le_of_eq (spareL_len l))]
theorem fillT_set (l : List Cl) (i : Nat) (h : i < (spareL l).length) : (fillT l i).set i (spareL l)[i] = fillT l (i + 1) := by
  have hl := spareL_len l
  unfold fillT
  have h1 : ((spareL l).take i).length = i := by rw [List.length_take]; omega
  rw [List.set_append_right _ _ (by omega), h1, Nat.sub_self, show l.length + 9 - i = (l.length + 9 - (i + 1)) + 1 from by omega, List.replicate_succ, List.set_cons_zero, take_snoc (spareL l) i h, List.append_assoc]
  rfl
/-- What came in is there, whatever was done beyond. -/
theorem rcells_ad {w : World} {A : Option Addr} {l : List Cl} (h : RCells w A l) (k : Nat) (hk : k < l.length) : ∃ ad, A = some ad ∧ ∀ w', Below w.heap.size w w' → w'.cell? (ad.add (k * 3)) = some (.int .i32 l[k].g) ∧ w'.cell? ⟨(ad.add (k * 3)).block, (ad.add (k * 3)).off + 1, none⟩ = some (.int .u8 l[k].r) ∧ w'.cell? ⟨(ad.add (k * 3)).block, (ad.add (k * 3)).off + 2, none⟩ = some (.bool l[k].k) := by
  obtain ⟨ad, rfl, _⟩ := h.at_ hk
  refine ⟨ad, rfl, fun w' hb => ?_⟩
  obtain ⟨ad', e, _, h0, h1, h2⟩ := (h.next hb).at_ hk
  injection e with e
  subst e
  exact ⟨h0, h1, h2⟩
set_option maxRecDepth 100000 in
set_option maxHeartbeats 4000000 in
theorem spare_any (A : Option Addr) (c : Nat) (l : List Cl) (hl : l.length ≤ 2000) (w : World) (hr : RCells w A l) :
    Calls Tryd.prog 5 #[.slice A l.length c] w fun e w' => ∃ g, w.heap.size ≤ g ∧ e = .returned (.tuple #[.slice (some ⟨g, 0, none⟩) l.length (l.length + 9), .slice (some ⟨g, 0, none⟩) (l.length + 9) (l.length + 9)]) ∧ Row w' g (spareL l) ∧ Below w.heap.size w w' := by
  obtain ⟨i0, hi0, hz0, hz1, hz2⟩ := info_parts info_cell
  have HI := Lib.hid hi0; have HZ0 := Lib.hid hz0; have HZ1 := Lib.hid hz1; have HZ2 := Lib.hid hz2
  clear hi0 hz0 hz1 hz2
  have hr' := hr
  clear hr
  have HSl := Lib.hid (spareL_len l)
  have HTk := Lib.hid (rcells_ad hr')
  go_enter Tryd.func5, Tryd.ntmps5
  go_wp2_with (at_make; refine wpList_make_full _ rfl _ _ 22 rfl w.heap.size 45 i0 _ 3 Tryd.underlying22 HI.out HZ0.out HZ1.out _ _ _ _ (l.length + 9) rfl rfl (by simp) (by simp) (by rw [HZ2.out]; omega) (by unfold maxLen; omega) (Nat.le_refl _) ?_; intro w1 hown hgr; have hrow1 : Row w1 w.heap.size (List.replicate (l.length + 9) zeroC) := (by have h := own_blkN hown; rw [made_cells] at h; simpa [Row] using h); have HRow1 := Lib.hid hrow1; have HB1 := Lib.hid (below_none hgr (Nat.le_refl _)); clear hown hgr hrow1)
  go_loopw [5] (fun i wr => ∃ k : Nat, k ≤ l.length + 9 ∧ i = .int .i64 k ∧ Row wr w.heap.size (fillT l k) ∧ Below w.heap.size w wr) (fun i _ => l.length + 9 - (intOf i).toNat)
  case atStart => exact ⟨0, by omega, rfl, by rw [fillT_zero]; exact HRow1.out, HB1.out⟩
  case round =>
    obtain ⟨k, hk, rfl, hrow, hbw⟩ := hrel
    have HRow := Lib.hid hrow; have HBw := Lib.hid hbw
    clear hrow hbw HRow1 HB1
    have hln : l.length ≤ 2000 := hl
    by_cases hlt : k < l.length + 9
    · have hflen := fillT_len l k hk
      have hk' : k < (fillT l k).length := by rw [hflen]; exact hlt
      have hks : k < (spareL l).length := by rw [HSl.out]; exact hlt
      have hw3 : IntKind.i32.wrap (900 + (k : Int)) = 900 + (k : Int) := by rw [IntKind.wrap_i32]; omega
      obtain ⟨d0, d1, d2⟩ := row_cell HRow.out hk'
      have f0 := Blk.frozen HRow.out (k * 3); have f1 := Blk.frozen HRow.out (k * 3 + 1); have f2 := Blk.frozen HRow.out (k * 3 + 2)
      have HSt1 := Lib.hid (row_store HRow.out hk' (tintC k))
      have HBs1 := Lib.hid (((HBw.out.setCell (p := ⟨w.heap.size, k * 3, none⟩) (Nat.le_refl _) (.int .i32 (tintC k).g)).setCell (p := ⟨w.heap.size, k * 3 + 1, none⟩) (Nat.le_refl _) (.int .u8 (tintC k).r)).setCell (p := ⟨w.heap.size, k * 3 + 2, none⟩) (Nat.le_refl _) (.bool (tintC k).k))
      have HFs := Lib.hid (fillT_set l k hks)
      have hk2 : k < ((fillT l k).set k (tintC k)).length := by rw [List.length_set]; exact hk'
      have HK2 := Lib.hid hk2
      clear hk2
      simp only [tintC] at HBs1
      generalize hL2 : (fillT l k).set k (tintC k) = L2 at *
      have HL2 := Lib.hid hL2
      clear hL2
      simp only [tintC] at HSt1
      generalize (fillT l k)[k] = old at *
      go_upto_region 6 with fail
      clear d0 d1 d2 f0 f1 f2 hw3
      generalize ((wr.setCell ⟨w.heap.size, k * 3, none⟩ (.int .i32 (900 + (k : Int)))).setCell ⟨w.heap.size, k * 3 + 1, none⟩ (.int .u8 3)).setCell ⟨w.heap.size, k * 3 + 2, none⟩ (.bool false) = w2 at *
      by_cases hin : k < l.length
      · have HAt := Lib.hid (spareL_lo l k hin hks)
        obtain ⟨ad, rfl, hcell⟩ := HTk.out k hin
        obtain ⟨h0, h1, h2⟩ := hcell _ HBs1.out
        have hst2 := row_store HSt1.out HK2.out l[k]
        rw [← HL2.out, List.set_set] at hst2
        have HBs2 := Lib.hid (((HBs1.out.setCell (p := ⟨w.heap.size, k * 3, none⟩) (Nat.le_refl _) (.int .i32 l[k].g)).setCell (p := ⟨w.heap.size, k * 3 + 1, none⟩) (Nat.le_refl _) (.int .u8 l[k].r)).setCell (p := ⟨w.heap.size, k * 3 + 2, none⟩) (Nat.le_refl _) (.bool l[k].k))
        obtain ⟨e0, e1, e2⟩ := row_cell HSt1.out HK2.out
        have g0 := Blk.frozen HSt1.out (k * 3); have g1 := Blk.frozen HSt1.out (k * 3 + 1); have g2 := Blk.frozen HSt1.out (k * 3 + 2)
        have HFin : Hid (Row _ w.heap.size (fillT l (k + 1))) := Lib.hid (by rw [← HAt.out, HFs.out] at hst2; exact hst2)
        clear hst2 HFs HSt1
        rw [HAt.out] at HFin
        generalize L2[k]'(HK2.out) = old2 at *
        clear HK2 HL2 hcell
        generalize l[k] = y at *
        obtain ⟨yg, yr, yk⟩ := y
        simp only at h0 h1 h2 HFin HBs2
        go_wp2_with fail
        go_roundw
        case rel => exact ⟨k + 1, by omega, by go_num, HFin.out, HBs2.out⟩
        case measure => simp [intOf]; omega
      · have HAt := Lib.hid (spareL_hi l k (by omega) hks)
        have HFin : Hid (Row w2 w.heap.size (fillT l (k + 1))) := Lib.hid (by have := HSt1.out; rw [← HL2.out, ← HAt.out, HFs.out] at this; exact this)
        clear HSt1 HFs HK2 HL2
        go_wp2_with fail
        go_roundw
        case rel => exact ⟨k + 1, by omega, by go_num, HFin.out, HBs1.out⟩
        case measure => simp [intOf]; omega
    · obtain rfl : k = l.length + 9 := by omega
      rw [fillT_all] at HRow
      go_wp2_with fail
      go_ret2
      exact ⟨_, Nat.le_refl _, rfl, HRow.out, HBw.out⟩

set_option maxRecDepth 100000 in
set_option maxHeartbeats 4000000 in
theorem kept_any (A B : Option Addr) (c d : Nat) (l : List Cl) (hl : l.length ≤ 2000) (w : World) (hr : RCells w A (spareL l)) (hs : RCells w B l) :
    Calls Tryd.prog 16 #[.slice A (l.length + 9) c, .slice B l.length d] w fun e w' => e = .returned (.bool true) ∧ Below w.heap.size w w' := by
  have HTa := Lib.hid (rcells_ad hr); have HTb := Lib.hid (rcells_ad hs)
  have HSl := Lib.hid (spareL_len l)
  clear hr hs
  have hgc : ∀ (y : Cl) W p q, (eqGuard .neq 45 p q (.agg #[.int .i32 y.g, .int .u8 y.r, .bool y.k]) (.agg #[.int .i32 y.g, .int .u8 y.r, .bool y.k])).run Tryd.prog W = .ok () W := fun y W p q => guard_cells .neq W p q y y
  have hnc : ∀ (y : Cl) W, (binOp .neq 45 (.agg #[.int .i32 y.g, .int .u8 y.r, .bool y.k]) (.agg #[.int .i32 y.g, .int .u8 y.r, .bool y.k])).run Tryd.prog W = .ok (.bool false) W := fun y W => by
    have := neq_cells W y y
    rw [(Cl.beq_iff _ _).2 rfl] at this
    exact this
  have HGc := Lib.hid hgc; have HNc := Lib.hid hnc
  clear hgc hnc
  go_enter Tryd.func16, Tryd.ntmps16
  go_wp2_with fail
  go_loopw [5] (fun i wr => ∃ k : Nat, k ≤ l.length + 9 ∧ i = .int .i64 k ∧ Below w.heap.size w wr) (fun i _ => l.length + 9 - (intOf i).toNat)
  case atStart => exact ⟨0, by omega, rfl, Below.refl _ _⟩
  case round =>
    obtain ⟨k, hk, rfl, hbw⟩ := hrel
    have HBw := Lib.hid hbw
    clear hbw
    by_cases hlt : k < l.length + 9
    · have hks : k < (spareL l).length := by rw [HSl.out]; exact hlt
      obtain ⟨ad, rfl, hca⟩ := HTa.out k hks
      by_cases hin : k < l.length
      · rw [spareL_lo l k hin hks] at hca
        obtain ⟨ae, rfl, hcb⟩ := HTb.out k hin
        have HA := Lib.hid (fun w' (h : Only [] wr w') => hca w' (HBw.out.trans (h.below0.mono HBw.out.size)))
        have HB := Lib.hid (fun w' (h : Only [] wr w') => hcb w' (HBw.out.trans (h.below0.mono HBw.out.size)))
        have hgc := HGc.out l[k]; have hnc := HNc.out l[k]
        clear hca hcb
        generalize l[k] = y at *
        obtain ⟨yg, yr, yk⟩ := y
        simp only at HA HB hgc hnc
        have hd1 : decide (k < l.length) = true := by simpa using hin
        have hd2 : decide (k ≥ l.length) = false := by simp; omega
        go_upto_region 6 with fail
        refine wp_region_mix_lit (by kernel_rfl) [] (by kernel_rfl) (by kernel_rfl) (by kernel_rfl) (by rfl) (by simp [apartK] <;> omega) (by simp [startK]) (by simp [stabK]) (⟨fun _ => undef, by simp [okK]⟩) (fun β hβ => ?_)
        repeat (
          refine lex_val (v := ?_) rfl rfl (fun w' hf => ?_) ?_
          rotate_left
          · obtain ⟨x0, x1, x2⟩ := HA.out w' hf.only; obtain ⟨y0, y1, y2⟩ := HB.out w' hf.only; go_simp
            try rfl
          try simp only [Act.put, List.setIfInBounds_toArray, List.set_cons_zero, List.set_cons_succ])
        repeat (
          refine lex_skip rfl rfl ?_
          try simp only [Act.put, List.setIfInBounds_toArray, List.set_cons_zero, List.set_cons_succ])
        repeat (
          refine lex_val (v := ?_) rfl rfl (fun w' hf => ?_) ?_
          rotate_left
          · go_simp
            try rfl
          try simp only [Act.put, List.setIfInBounds_toArray, List.set_cons_zero, List.set_cons_succ])
        refine lex_nil fun w2 he => ?_
        have HBn := Lib.hid (HBw.out.trans (he.only.below0.mono HBw.out.size))
        clear he
        go_wp2_with fail
        go_roundw
        case rel => exact ⟨k + 1, by omega, by go_num, HBn.out⟩
        case measure => simp [intOf]; omega
      · rw [spareL_hi l k (by omega) hks] at hca
        have HA := Lib.hid (fun w' (h : Only [] wr w') => hca w' (HBw.out.trans (h.below0.mono HBw.out.size)))
        have hgc := HGc.out (tintC k); have hnc := HNc.out (tintC k)
        simp only [tintC] at HA hgc hnc
        have hw2 : IntKind.i64.wrap (900 + (k : Int)) = 900 + (k : Int) := IntWalk.i64_in _ (by omega)
        have hw3 : IntKind.i32.wrap (900 + (k : Int)) = 900 + (k : Int) := by rw [IntKind.wrap_i32]; omega
        clear hca
        have hd1 : decide (k < l.length) = false := by simp; omega
        have hd2 : decide (k ≥ l.length) = true := by simp; omega
        go_upto_region 6 with fail
        refine wp_region_mix_lit (by kernel_rfl) [] (by kernel_rfl) (by kernel_rfl) (by kernel_rfl) (by rfl) (by simp [apartK] <;> omega) (by simp [startK]) (by simp [stabK]) (⟨fun _ => undef, by simp [okK]⟩) (fun β hβ => ?_)
        repeat (
          refine lex_val (v := ?_) rfl rfl (fun w' hf => ?_) ?_
          rotate_left
          · go_simp
            try rfl
          try simp only [Act.put, List.setIfInBounds_toArray, List.set_cons_zero, List.set_cons_succ])
        repeat (
          refine lex_skip rfl rfl ?_
          try simp only [Act.put, List.setIfInBounds_toArray, List.set_cons_zero, List.set_cons_succ])
        repeat (
          refine lex_val (v := ?_) rfl rfl (fun w' hf => ?_) ?_
          rotate_left
          · obtain ⟨x0, x1, x2⟩ := HA.out w' hf.only; go_simp
            try rfl
          try simp only [Act.put, List.setIfInBounds_toArray, List.set_cons_zero, List.set_cons_succ])
        refine lex_nil fun w2 he => ?_
        have HBn := Lib.hid (HBw.out.trans (he.only.below0.mono HBw.out.size))
        clear he
        go_wp2_with fail
        go_roundw
        case rel => exact ⟨k + 1, by omega, by go_num, HBn.out⟩
        case measure => simp [intOf]; omega
    · obtain rfl : k = l.length + 9 := by omega
      go_wp2_with fail
      go_ret
      exact ⟨rfl, HBw.out⟩
end Go.Proofs.YtbndnaohjloanaaDoor

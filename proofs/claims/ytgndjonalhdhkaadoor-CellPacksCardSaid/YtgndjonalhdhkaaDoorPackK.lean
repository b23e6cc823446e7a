/-
  The walk of the reference that writes a row as bytes.
-/
import Derived.Test.YtgndjonalhdhkaaDoorPackI
import Derived.Test.YtgndjonalhdhkaaDoorMixE
namespace Go.Proofs.YtgndjonalhdhkaaDoor
open Go Go.RowKit

/-- What is there, whatever was done beyond. -/
theorem rcells_atK {w : World} {ad : Addr} {l : List Cl} (h : RCells w (some ad) l) {k : Nat} {z : Cl} (hz : l[k]? = some z) :
    ∀ w', Below w.heap.size w w' → w'.cell? (ad.add (k * 3)) = some (.int .i32 z.g) ∧ w'.cell? ⟨(ad.add (k * 3)).block, (ad.add (k * 3)).off + 1, none⟩ = some (.int .u8 z.r) ∧ w'.cell? ⟨(ad.add (k * 3)).block, (ad.add (k * 3)).off + 2, none⟩ = some (.bool z.k) := fun w' hb => by
  obtain ⟨hlt, hzk⟩ := List.getElem?_eq_some_iff.1 hz
  obtain ⟨ad', e', _, h1, h2, h3⟩ := (h.next hb).at_ hlt
  obtain rfl : ad = ad' := by injection e'
  rw [hzk] at h1 h2 h3
  exact ⟨h1, h2, h3⟩
theorem run7_wraps (z : Cl) (n : Nat) (hn : n ≤ 255) : IntKind.u8.wrap (n : Int) = n ∧ IntKind.u8.wrap ((z.g % 4294967296).tdiv 16777216) = z.g % 4294967296 / 16777216 ∧ IntKind.u8.wrap ((z.g % 4294967296).tdiv 65536) = z.g % 4294967296 / 65536 % 256 ∧
    IntKind.u8.wrap ((z.g % 4294967296).tdiv 256) = z.g % 4294967296 / 256 % 256 ∧ IntKind.u8.wrap (z.g % 4294967296) = z.g % 256 := by
  have h0 : 0 ≤ z.g % 4294967296 := Int.emod_nonneg _ (by omega)
  have h1 : z.g % 4294967296 < 4294967296 := Int.emod_lt_of_pos _ (by omega)
  simp only [IntKind.wrap_u8]
  rw [Int.tdiv_eq_ediv_of_nonneg h0, Int.tdiv_eq_ediv_of_nonneg h0, Int.tdiv_eq_ediv_of_nonneg h0]
  refine ⟨by omega, by omega, by omega, by omega, by omega⟩
set_option maxRecDepth 100000 in
set_option maxHeartbeats 8000000 in
theorem refEncode_any (A : Option Addr) (c : Nat) (l : List Cl) (hl : l.length ≤ 100000) (hok : OkCells l) (w : World) (hr : RCells w A l) :
    Calls Tryd.prog 8 #[.slice A l.length c] w fun e w' => ∃ v, e = .returned v ∧ OBs w' w.heap.size v (encL (runsL l)) ∧ Below w.heap.size w w' := by
  have HOk := Lib.hid hok; have HR := Lib.hid hr
  clear hok hr
  go_enter Tryd.func8, Tryd.ntmps8
  go_wp2_with fail
  go_loopw [3, 4] (fun s i wr => ∃ k : Nat, k ≤ l.length ∧ i = .int .i64 k ∧ OBs wr w.heap.size s (encL (runsL (l.take k))) ∧ Below w.heap.size w wr ∧ EndAt l k (runsL (l.take k))) (fun _ i _ => l.length - (intOf i).toNat)
  case atStart => exact ⟨0, by omega, rfl, World.ownsRow_nil _ _ _ _, Below.refl _ _, end_start l⟩
  case round =>
    obtain ⟨k, hk, rfl, hown, hb, hend⟩ := hrel
    rename World => w0
    have HOwn := Lib.hid hown; have HEnd := Lib.hid hend; have HB := Lib.hid hb
    clear hown hend hb
    by_cases hlt : k < l.length
    · obtain ⟨z, hzq⟩ : ∃ z, l[k]? = some z := ⟨_, List.getElem?_eq_getElem hlt⟩
      have hzo := HOk.out z (List.mem_of_getElem? hzq)
      have HZo := Lib.hid hzo; have HZq := Lib.hid hzq
      obtain ⟨ad, rfl, _⟩ := HR.out.2 (by omega)
      have HAz := Lib.hid (rcells_atK HR.out hzq)
      clear hzo hzq
      go_wp2_with fail
      go_loopw [5] (fun i wq => ∃ n : Nat, 1 ≤ n ∧ n ≤ 255 ∧ k + n ≤ l.length ∧ i = .int .i64 n ∧ (∀ j, j < n → l[k + j]? = some z) ∧ Below w0.heap.size w0 wq) (fun i _ => 255 - (intOf i).toNat)
      case atStart => exact ⟨1, by omega, by omega, by omega, rfl, (fun j hj => by obtain rfl : j = 0 := by omega
                                                                                   exact HZq.out), Below.refl _ _⟩
      case round =>
        obtain ⟨n, n1, n2, hn, rfl, hal, hbn⟩ := hrel
        have HAl := Lib.hid hal; have HBn := Lib.hid hbn
        clear hal hbn
        have HBw := Lib.hid (HB.out.trans (HBn.out.mono HB.out.size))
        have hto : ((k : Int) + (n : Int)).toNat = k + n := by omega
        have hwk : IntKind.i64.wrap ((k : Int) + n) = (k : Int) + n := IntWalk.i64_in _ (by omega)
        go_upto_region 5 with fail
        go_cut [35] (fun u wx => ∃ q : Bool, u = .bool q ∧ (q = true → n < 255 ∧ l[k + n]? = some z) ∧ (q = false → n = 255 ∨ l[k + n]? ≠ some z) ∧ Below w0.heap.size w0 wx)
        case first =>
          by_cases h1 : k + n < l.length
          · have hd1 : decide ((k : Int) + n < l.length) = true := by simp; omega
            have hi1 : (0 : Int) ≤ (k : Int) + n := by omega
            have hi2 : (k : Int) + n < l.length := by omega
            obtain ⟨y, hyq⟩ : ∃ y, l[k + n]? = some y := ⟨_, List.getElem?_eq_getElem h1⟩
            have HYq := Lib.hid hyq
            have HAy := Lib.hid (rcells_atK HR.out hyq)
            clear hyq
            by_cases h2 : n < 255
            · have hd2 : decide ((n : Int) < 255) = true := by simp; omega
              have hne := eql_cells wr y z
              have hN : ∀ W, (binOp .eql 42 (.agg #[.int .i32 y.g, .int .u8 y.r, .bool y.k]) (.agg #[.int .i32 z.g, .int .u8 z.r, .bool z.k])).run Tryd.prog W = .ok (.bool (y.beq z)) W := fun W => eql_cells W y z
              have hG : ∀ W p q, (eqGuard .eql 42 p q (.agg #[.int .i32 y.g, .int .u8 y.r, .bool y.k]) (.agg #[.int .i32 z.g, .int .u8 z.r, .bool z.k])).run Tryd.prog W = .ok () W := fun W p q => guard_cells .eql W p q y z
              have HQ := Lib.hid (Cl.beq_iff y z)
              clear hne
              generalize y.beq z = q at *
              refine wp_region_mix_lit (by kernel_rfl) [] (by kernel_rfl) (by kernel_rfl) (by kernel_rfl) (by rfl) (by simp [apartK] <;> omega) (by simp [startK]) (by simp [stabK]) (⟨fun _ => undef, by simp [okK]⟩) (fun β hβ => ?_)
              repeat (
                refine lex_val (v := ?_) rfl rfl (fun w' hf => ?_) ?_
                rotate_left
                · obtain ⟨x0, x1, x2⟩ := HAy.out w' (HBw.out.trans (hf.only.below0.mono HBw.out.size)); obtain ⟨y0, y1, y2⟩ := HAz.out w' (HBw.out.trans (hf.only.below0.mono HBw.out.size)); go_simp
                  try rfl
                try simp only [Act.put, List.setIfInBounds_toArray, List.set_cons_zero, List.set_cons_succ])
              refine lex_nil fun w2 he => ?_
              have HFin := Lib.hid (HBn.out.trans (he.only.below0.mono HBn.out.size))
              clear he
              go_wp2_with fail
              go_meet
              exact ⟨q, rfl, fun e => ⟨h2, by rw [HYq.out, HQ.out.1 e]⟩, fun e => .inr (by rw [HYq.out]; intro e2; rw [HQ.out.2 (Option.some.inj e2)] at e; cases e), HFin.out⟩
            · have hd2 : decide ((n : Int) < 255) = false := by simp; omega
              refine wp_region_mix_lit (by kernel_rfl) [] (by kernel_rfl) (by kernel_rfl) (by kernel_rfl) (by rfl) (by simp [apartK] <;> omega) (by simp [startK]) (by simp [stabK]) (⟨fun _ => undef, by simp [okK]⟩) (fun β hβ => ?_)
              repeat (
                refine lex_val (v := ?_) rfl rfl (fun w' hf => ?_) ?_
                rotate_left
                · go_simp
                  try rfl
                try simp only [Act.put, List.setIfInBounds_toArray, List.set_cons_zero, List.set_cons_succ])
              repeat (
                refine lex_skip rfl rfl ?_
                try simp only [Act.put, List.setIfInBounds_toArray, List.set_cons_zero, List.set_cons_succ])
              repeat (
                refine lex_val (v := ?_) rfl rfl (fun w' hf => ?_) ?_
                rotate_left
                · go_simp
                  try rfl
                try simp only [Act.put, List.setIfInBounds_toArray, List.set_cons_zero, List.set_cons_succ])
              refine lex_nil fun w2 he => ?_
              have HFin := Lib.hid (HBn.out.trans (he.only.below0.mono HBn.out.size))
              clear he
              go_wp2_with fail
              go_meet
              exact ⟨false, rfl, fun e => (by cases e), fun _ => .inl (by omega), HFin.out⟩
          · have hd1 : decide ((k : Int) + n < l.length) = false := by simp; omega
            refine wp_region_mix_lit (by kernel_rfl) [] (by kernel_rfl) (by kernel_rfl) (by kernel_rfl) (by rfl) (by simp [apartK] <;> omega) (by simp [startK]) (by simp [stabK]) (⟨fun _ => undef, by simp [okK]⟩) (fun β hβ => ?_)
            repeat (
              refine lex_val (v := ?_) rfl rfl (fun w' hf => ?_) ?_
              rotate_left
              · go_simp
                try rfl
              try simp only [Act.put, List.setIfInBounds_toArray, List.set_cons_zero, List.set_cons_succ])
            repeat (
              refine lex_skip rfl rfl ?_
              try simp only [Act.put, List.setIfInBounds_toArray, List.set_cons_zero, List.set_cons_succ])
            repeat (
              refine lex_val (v := ?_) rfl rfl (fun w' hf => ?_) ?_
              rotate_left
              · go_simp
                try rfl
              try simp only [Act.put, List.setIfInBounds_toArray, List.set_cons_zero, List.set_cons_succ])
            repeat (
              refine lex_skip rfl rfl ?_
              try simp only [Act.put, List.setIfInBounds_toArray, List.set_cons_zero, List.set_cons_succ])
            repeat (
              refine lex_val (v := ?_) rfl rfl (fun w' hf => ?_) ?_
              rotate_left
              · go_simp
                try rfl
              try simp only [Act.put, List.setIfInBounds_toArray, List.set_cons_zero, List.set_cons_succ])
            refine lex_nil fun w2 he => ?_
            have HFin := Lib.hid (HBn.out.trans (he.only.below0.mono HBn.out.size))
            clear he
            go_wp2_with fail
            go_meet
            exact ⟨false, rfl, fun e => (by cases e), fun _ => .inr (by rw [List.getElem?_eq_none (by omega)]; simp), HFin.out⟩
        case rest =>
        obtain ⟨q, rfl, hq1, hq2, hbx⟩ := hcut
        have HBx := Lib.hid hbx
        clear hbx
        cases q with
        | true =>
          obtain ⟨h1, h2⟩ := hq1 rfl
          have HH := Lib.hid h2
          clear hq1 hq2 h2
          have hlt2 : k + n < l.length := (List.getElem?_eq_some_iff.1 HH.out).1
          go_wp2_with fail
          go_roundw
          case rel => exact ⟨n + 1, by omega, by omega, by omega, by go_num, (fun j hj => by
                            by_cases hjn : j < n
                            · exact HAl.out j hjn
                            · obtain rfl : j = n := by omega
                              exact HH.out), HBx.out⟩
          case measure => simp [intOf]; omega
        | false =>
          have HSt := Lib.hid (runs_step l k n z n1 n2 HAl.out (hq2 rfl) HEnd.out)
          clear hq1 hq2
          have HBc := Lib.hid (HB.out.trans (HBx.out.mono HB.out.size))
          obtain ⟨y0, y1, y2⟩ := HAz.out _ HBc.out
          have HOc := Lib.hid (HOwn.out.next HBx.out)
          have HZv := Lib.hid (run7_wraps z n n2)
          have hzg := HZo.out.1
          clear HAz HAl HBn HBw hto hwk HEnd
          obtain ⟨zg, zr, zk⟩ := z
          simp only at y0 y1 y2 hzg HZv
          go_upto_if 46 with fail
          have HBl := Lib.hid (Blk.new wc 42 #[.int .i32 zg, .int .u8 zr, .bool zk])
          have hal := (Below.refl wc.heap.size wc).alloc (Nat.le_refl _) (.cells #[.int .i32 zg, .int .u8 zr, .bool zk] 42)
          have HBc2 := Lib.hid (HBc.out.trans (hal.mono HBc.out.size)); have HOc2 := Lib.hid (HOc.out.next hal)
          clear hal y0 y1 y2 HBx HBc HOc
          generalize wc.alloc (.cells #[.int .i32 zg, .int .u8 zr, .bool zk] 42) = w3 at *
          generalize wc.heap.size = bz at *
          go_cut [7] (fun u wx => u = .int .i64 (zg % 4294967296) ∧ wx = w3)
          case first =>
            by_cases hneg : zg < 0
            · have hdn : decide (zg < 0) = true := by simpa using hneg
              have hw : IntKind.i64.wrap (zg + 4294967296) = zg + 4294967296 := IntWalk.i64_in _ (by omega)
              have he : zg + 4294967296 = zg % 4294967296 := by omega
              have HE := Lib.hid he
              clear he
              go_wp2_with fail
              go_meet
              exact ⟨by rw [HE.out], rfl⟩
            · have hdn : decide (zg < 0) = false := by simpa using hneg
              have he : zg = zg % 4294967296 := by omega
              have HE := Lib.hid he
              clear he
              go_wp2_with fail
              go_meet
              exact ⟨congrArg (Value.int .i64) HE.out, rfl⟩
          case rest =>
          obtain ⟨rfl, rfl⟩ := hcut
          have b0 := HBl.out.cell 0; have b1 := HBl.out.cell 1; have b2 := HBl.out.cell 2
          simp only [List.getElem?_toArray, List.getElem?_cons_zero, List.getElem?_cons_succ] at b0 b1 b2
          go_upto_if 50 with fail
          go_cut [8] (fun u wx => u = .int .u8 (if zk then 1 else 0) ∧ wx = wc)
          case first =>
            cases zk
            · go_wp2_with fail
              go_meet
              exact ⟨rfl, rfl⟩
            · go_wp2_with fail
              go_meet
              exact ⟨rfl, rfl⟩
          case rest =>
          obtain ⟨rfl, rfl⟩ := hcut
          obtain ⟨e1, e2, e3, e4, e5⟩ := HZv.out
          have hg0 : 0 ≤ zg % 4294967296 := Int.emod_nonneg _ (by omega)
          have hg1 : zg % 4294967296 < 4294967296 := Int.emod_lt_of_pos _ (by omega)
          generalize hkv : (if zk then (1 : Int) else 0) = kv at *
          have hlen : (encL (runsL (l.take k))).length ≤ 700000 := by
            rw [encL_len]
            have := (runsL_ok (l.take k) (fun x hx => HOk.out x (List.mem_of_mem_take hx))).2.2
            rw [List.length_take] at this
            omega
          have HLn := Lib.hid hlen
          obtain ⟨i0, hi0, hz0, hz1, hz2⟩ := info_parts info_byte
          have HI := Lib.hid hi0; have HZ0 := Lib.hid hz0; have HZ1 := Lib.hid hz1; have HZ2 := Lib.hid hz2
          have hal := (Below.refl wc.heap.size wc).alloc (Nat.le_refl _) (.cells #[.int .u8 (n : Int), .int .u8 (zg % 4294967296 / 16777216), .int .u8 (zg % 4294967296 / 65536 % 256), .int .u8 (zg % 4294967296 / 256 % 256), .int .u8 (zg % 256), .int .u8 zr, .int .u8 kv] 5)
          have HOa := Lib.hid (HOc2.out.next hal)
          have HBa := Lib.hid (HBc2.out.trans (hal.mono HBc2.out.size))
          have HRd := Lib.hid (Reads.of_own (c := 7) (World.ownsRow_lit (e := 5) (size := 1) wc #[.int .u8 (n : Int), .int .u8 (zg % 4294967296 / 16777216), .int .u8 (zg % 4294967296 / 65536 % 256), .int .u8 (zg % 4294967296 / 256 % 256), .int .u8 (zg % 256), .int .u8 zr, .int .u8 kv] 7 (Nat.le_refl _) (by unfold maxLen; omega) rfl))
          have HN7 : Hid (encL (runsL (l.take (k + n))) = encL (runsL (l.take k)) ++ [(n : Int), zg % 4294967296 / 16777216, zg % 4294967296 / 65536 % 256, zg % 4294967296 / 256 % 256, zg % 256, zr, kv]) := Lib.hid (by
            rw [HSt.out.1]
            unfold encL
            rw [List.flatMap_append, ← hkv]
            simp [run7])
          have HSt2 := Lib.hid HSt.out.2
          clear hlen hi0 hz0 hz1 hz2 hal HSt HZv hkv
          generalize encL (runsL (l.take k)) = eb at *
          go_upto_region 15 with (at_builtin; refine wpList_append_any _ rfl (.tmp 51) (.tmp 68) 23 rfl w.heap.size 5 i0 _ 1 1 Tryd.underlying23 HI.out HZ0.out HZ1.out HZ2.out rfl (by decide) _ _ _ rfl (obs_own HOa.out) _ _ 7 7 _ rfl HRd.out (by intro v hv; simp at hv; rcases hv with rfl | rfl | rfl | rfl | rfl | rfl | rfl <;> rfl) (by have := HLn.out; unfold maxLen; omega) (by have := HLn.out; omega) HBa.out.size ?_; intro u w4 hu hgr hor)
          have hfin : OBs w4 w.heap.size u (encL (runsL (l.take (k + n)))) := by
            rw [HN7.out]; unfold OBs; rw [List.length_append, List.map_append]; exact hu
          have HFin := Lib.hid hfin
          have HBf := Lib.hid (HBa.out.grown hgr HBa.out.size (fun q hq => (World.ownsRow.lt (obs_own HOa.out) q hq).1))
          clear hfin hu hgr hor
          have hkn : k + n ≤ l.length := hn
          go_wp2_with fail
          go_roundw
          case rel => exact ⟨k + n, by omega, by go_num, HFin.out, HBf.out, HSt2.out⟩
          case measure => simp [intOf]; omega
    · obtain rfl : k = l.length := by omega
      go_wp2
      go_ret
      have h1 := HOwn.out
      rw [List.take_length] at h1
      exact ⟨_, rfl, h1, HB.out⟩
end Go.Proofs.YtgndjonalhdhkaaDoor

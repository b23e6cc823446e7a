/-
  The walks that do one deed with every cell of a span.
-/
import Derived.Test.YtbndnaohjloanaaDoorLineK
namespace Go.Proofs.YtbndnaohjloanaaDoor

open Go.RowKit

set_option maxRecDepth 100000 in
set_option maxHeartbeats 1000000 in
theorem cover_any (c x : Cl) (w : World) :
    Calls Tryd.prog 26 #[c.val, x.val] w fun e w' => e = .returned c.val ∧ Below w.heap.size w w' := by
  obtain ⟨g, r, k⟩ := c
  obtain ⟨g', r', k'⟩ := x
  unfold Cl.val
  go_enter Tryd.func26, Tryd.ntmps26
  go_wp2_with fail
  exact bodyPost_ret (v := .agg #[.int .i32 g, .int .u8 r, .bool k]) (by simp [results, Tryd.results26, go_sem]) rfl ⟨rfl, by go_grown⟩

/-- A deed, done with k cells from F on. -/
def eachP (φ : Cl → Cl) (l : List Cl) (F k : Nat) : List Cl := l.take F ++ ((l.drop F).take k).map φ ++ l.drop (F + k)
theorem eachP_len (φ : Cl → Cl) (l : List Cl) (F k : Nat) (h : F + k ≤ l.length) : (eachP φ l F k).length = l.length := by unfold eachP; simp; omega
theorem eachP_zero (φ : Cl → Cl) (l : List Cl) (F : Nat) : eachP φ l F 0 = l := by unfold eachP; simp
theorem eachP_at (φ : Cl → Cl) (l : List Cl) (F k : Nat) (h : F + k < l.length) (h' : F + k < (eachP φ l F k).length) : (eachP φ l F k)[F + k] = l[F + k] := by
  unfold eachP at *
  have h1 : (l.take F ++ ((l.drop F).take k).map φ).length = F + k := by simp; omega
  rw [List.getElem_append_right (by omega)]
  simp only [h1, Nat.sub_self, List.getElem_drop, Nat.add_zero]
theorem eachP_step (φ : Cl → Cl) (l : List Cl) (F k : Nat) (h : F + k < l.length) : (eachP φ l F k).set (F + k) (φ l[F + k]) = eachP φ l F (k + 1) := by
  unfold eachP
  have h1 : (l.take F ++ ((l.drop F).take k).map φ).length = F + k := by simp; omega
  rw [List.set_append_right _ _ (by omega), h1, Nat.sub_self]
  have h2 : l.drop (F + k) = l[F + k] :: l.drop (F + k + 1) := List.drop_eq_getElem_cons h
  have h3 : (l.drop F).take (k + 1) = (l.drop F).take k ++ [l[F + k]] := by
    rw [take_snoc (l.drop F) k (by rw [List.length_drop]; omega)]
    simp
  rw [h2, List.set_cons_zero, h3, List.map_append, Nat.add_assoc F k 1]
  simp

set_option maxRecDepth 100000 in
set_option maxHeartbeats 4000000 in
theorem each_any (G : Nat) (u : Value) (φ : Cl → Cl) (hE : ∀ args W, (callFunc G args).run Tryd.prog W = .ok (.enter G args) W) (A : Option Addr) (c : Nat) (l : List Cl) (size f t : Int) (hl : l.length ≤ 100000) (w : World) (hr : RCells w A l)
    (hG : ∀ x ∈ l, ∀ W, Below w.heap.size w W → Calls Tryd.prog G #[u, x.val] W fun e w' => e = .returned (φ x).val ∧ Below W.heap.size W w') :
    Calls Tryd.prog 24 #[lineV A l.length c size, .int .i64 f, .int .i64 t, .func (.func G) #[u] #[]] w fun e w' => ∃ g, w.heap.size ≤ g ∧ e = .returned (lineV (some ⟨g, 0, none⟩) l.length l.length size) ∧ Row w' g (eachP φ l (loP f) (hiP l.length t - loP f)) ∧ Below w.heap.size w w' := by
  have HC := Lib.hid (fun W h => copy_any A c l size hl W h)
  have HG := Lib.hid hG
  have HR := Lib.hid hr
  clear hr hG
  have HPS := Lib.hid (fun ad c' h W => part_some ad l.length c' size f t h W)
  have HPN := Lib.hid (fun A' c' h W => part_none A' l.length c' size f t h W)
  have hT : hiP l.length t ≤ l.length := by unfold hiP; omega
  unfold lineV at *
  generalize hn : l.length = n at *
  have HN := Lib.hid hn
  clear hn
  generalize loP f = F at *
  generalize hiP n t = T at *
  generalize hM : T - F = M at *
  have HK := Lib.hid (KL.start w #[.slice A n c, .int .i64 size] #[.slice none 0 0, .int .i64 0])
  go_enter Tryd.func24, Tryd.ntmps24
  go_wp2_with fail
  refine (HC.out _ (HR.out.next HK.out.2.2)).mono ?_
  rintro e w1 ⟨g, hg, rfl, hrow, hb1⟩
  have HK1 := Lib.hid (KL.alloc (KL.next HK.out hb1) (.cells #[.slice (some ⟨g, 0, none⟩) n n, .int .i64 size] 29))
  have HB1 := Lib.hid (Blk.new w1 29 #[.slice (some ⟨g, 0, none⟩) n n, .int .i64 size])
  have HRow1 := Lib.hid (Blk.alloc hrow (.cells #[.slice (some ⟨g, 0, none⟩) n n, .int .i64 size] 29))
  have hgB := Row.lt hrow
  have hg2 : w.heap.size + 2 ≤ g := by simp at hg; omega
  have HFin : Hid (∀ W W' : World, KL w #[.slice A n c, .int .i64 size] #[.slice none 0 0, .int .i64 0] W → ∀ L, Row W g L → W' = (W.setCell ⟨w.heap.size + 1, 0, none⟩ (.slice (some ⟨g, 0, none⟩) n n)).setCell ⟨w.heap.size + 1, 1, none⟩ (.int .i64 size) →
      W'.cell? ⟨w.heap.size + 1, 0, none⟩ = some (.slice (some ⟨g, 0, none⟩) n n) ∧ W'.cell? ⟨w.heap.size + 1, 1, none⟩ = some (.int .i64 size) ∧ Row W' g L ∧ Below w.heap.size w W') := Lib.hid (by
    rintro W W' h L hL rfl
    have h2 := KL.store2 h (.slice (some ⟨g, 0, none⟩) n n) (.int .i64 size)
    exact ⟨(KL.res h2).1, (KL.res h2).2.1, Row.far2 hL (by omega) _ _, h2.2.2⟩)
  clear hg hrow hb1
  go_wp2_with fail
  generalize w1.heap.size = B at *
  generalize w1.alloc (.cells #[.slice (some ⟨g, 0, none⟩) n n, .int .i64 size] 29) = W1 at *
  by_cases hlt : F < T
  · refine (HPS.out _ _ (by omega) hlt _).mono ?_
    rintro e w2 ⟨rfl, hb2⟩
    rw [add_cell]
    have HK2 := Lib.hid (KL.next HK1.out hb2)
    have HB2 := Lib.hid (HB1.out.next hb2)
    have HRow2 := Lib.hid (Row.next HRow1.out hb2)
    have hM2 : F + M ≤ n := by omega
    clear hM hb2
    go_wp2_with fail
    go_loopw [21] (fun i wr => ∃ k : Nat, k ≤ M ∧ i = .int .i64 k ∧ Row wr g (eachP φ l F k) ∧ KL w #[.slice A n c, .int .i64 size] #[.slice none 0 0, .int .i64 0] wr ∧ Blk wr B 29 #[.slice (some ⟨g, 0, none⟩) n n, .int .i64 size]) (fun i _ => M - (intOf i).toNat)
    case atStart => exact ⟨0, by omega, rfl, by rw [eachP_zero]; exact HRow2.out, HK2.out, HB2.out⟩
    case round =>
      obtain ⟨k, hk, rfl, hrow, hkl, hblk⟩ := hrel
      have HRow := Lib.hid hrow; have HKL := Lib.hid hkl; have HBlk := Lib.hid hblk
      clear hrow hkl hblk
      by_cases hkM : k < M
      · have HS := Lib.hid (eachP_step φ l F k (by rw [HN.out]; omega))
        have hlen := eachP_len φ l F k (by rw [HN.out]; omega)
        have hk' : F + k < (eachP φ l F k).length := by rw [hlen, HN.out]; omega
        have HAt := Lib.hid (eachP_at φ l F k (by rw [HN.out]; omega) hk')
        obtain ⟨d0, d1, d2⟩ := row_cell HRow.out hk'
        rw [HAt.out] at d0 d1 d2
        have HX := Lib.hid (fun W (hB : Below w.heap.size w W) => HG.out (l[F + k]'(by rw [HN.out]; omega)) (List.getElem_mem _) W hB)
        generalize l[F + k]'(by rw [HN.out]; omega) = x at *
        have ek : (F + k) * 3 = F * 3 + k * 3 := by omega
        rw [ek] at d0 d1 d2
        clear HAt hlen
        obtain ⟨xg, xr, xk⟩ := x
        unfold Cl.val at HX
        simp only at d0 d1 d2
        go_wp2_with fail
        refine (HX.out _ (KL.alloc HKL.out (.cells #[.int .i32 xg, .int .u8 xr, .bool xk] 45)).2.2).mono ?_
        rintro e w3 ⟨rfl, hb3⟩
        have HK3 := Lib.hid (KL.next (KL.alloc HKL.out (.cells #[.int .i32 xg, .int .u8 xr, .bool xk] 45)) hb3)
        have HB3 := Lib.hid (Blk.next (Blk.alloc HBlk.out (.cells #[.int .i32 xg, .int .u8 xr, .bool xk] 45)) hb3)
        have HR3 := Lib.hid (Row.next (show Row _ g _ from Blk.alloc HRow.out (.cells #[.int .i32 xg, .int .u8 xr, .bool xk] 45)) hb3)
        clear d0 d1 d2 hb3
        obtain ⟨d0, d1, d2⟩ := row_cell HR3.out hk'
        rw [ek] at d0 d1 d2
        have f0 := Blk.frozen HR3.out (F * 3 + k * 3); have f1 := Blk.frozen HR3.out (F * 3 + k * 3 + 1); have f2 := Blk.frozen HR3.out (F * 3 + k * 3 + 2)
        have HSt := Lib.hid (row_store HR3.out hk' (φ ⟨xg, xr, xk⟩))
        rw [ek, HS.out] at HSt
        have HKS := Lib.hid (KL.beyond (KL.beyond (KL.beyond HK3.out hg2 (F * 3 + k * 3) (.int .i32 (φ ⟨xg, xr, xk⟩).g)) hg2 (F * 3 + k * 3 + 1) (.int .u8 (φ ⟨xg, xr, xk⟩).r)) hg2 (F * 3 + k * 3 + 2) (.bool (φ ⟨xg, xr, xk⟩).k))
        have HBS := Lib.hid (Blk.far (Blk.far (Blk.far HB3.out (p := ⟨g, F * 3 + k * 3, none⟩) (by simp; omega) (.int .i32 (φ ⟨xg, xr, xk⟩).g)) (p := ⟨g, F * 3 + k * 3 + 1, none⟩) (by simp; omega) (.int .u8 (φ ⟨xg, xr, xk⟩).r)) (p := ⟨g, F * 3 + k * 3 + 2, none⟩) (by simp; omega) (.bool (φ ⟨xg, xr, xk⟩).k))
        generalize (eachP φ l F k)[F + k] = old at *
        clear HS HX ek
        generalize φ ⟨xg, xr, xk⟩ = y at *
        go_wp2_with fail
        go_roundw
        case rel => exact ⟨k + 1, by omega, by go_num, HSt.out, HKS.out, HBS.out⟩
        case measure => simp [intOf]; omega
      · obtain rfl : k = M := by omega
        have b0 : wr.cell? ⟨B, 0, none⟩ = some (.slice (some ⟨g, 0, none⟩) n n) := HBlk.out.cell 0
        have b1 : wr.cell? ⟨B, 1, none⟩ = some (.int .i64 size) := HBlk.out.cell 1
        obtain ⟨c2, c3, f2, f3⟩ := KL.res HKL.out
        go_wp2_with fail
        obtain ⟨e0, e1, h3, h4⟩ := HFin.out _ _ HKL.out _ HRow.out rfl
        exact bodyPost_ret (v := .agg #[.slice (some ⟨g, 0, none⟩) n n, .int .i64 size]) (by simp [results, Tryd.results24, go_sem, e0, e1]) rfl ⟨g, by omega, rfl, h3, h4⟩
  · obtain rfl : M = 0 := by omega
    refine (HPN.out _ _ (by omega) _).mono ?_
    rintro e w2 ⟨rfl, hb2⟩
    have HK2 := Lib.hid (KL.next HK1.out hb2)
    have HB2 := Lib.hid (HB1.out.next hb2)
    have HRow2 : Hid (Row w2 g (eachP φ l F 0)) := Lib.hid (by rw [eachP_zero]; exact Row.next HRow1.out hb2)
    clear hb2 hM hlt
    have b0 : w2.cell? ⟨B, 0, none⟩ = some (.slice (some ⟨g, 0, none⟩) n n) := HB2.out.cell 0
    have b1 : w2.cell? ⟨B, 1, none⟩ = some (.int .i64 size) := HB2.out.cell 1
    obtain ⟨c2, c3, f2, f3⟩ := KL.res HK2.out
    go_wp2_with fail
    go_loop [21] (fun i => i = .int .i64 0) (fun i => 0)
    case atStart => exact rfl
    case round =>
      subst hrel
      go_wp2_with fail
      obtain ⟨e0, e1, h3, h4⟩ := HFin.out _ _ HK2.out _ HRow2.out rfl
      exact bodyPost_ret (v := .agg #[.slice (some ⟨g, 0, none⟩) n n, .int .i64 size]) (by simp [results, Tryd.results24, go_sem, e0, e1]) rfl ⟨g, by omega, rfl, h3, h4⟩
end Go.Proofs.YtbndnaohjloanaaDoor

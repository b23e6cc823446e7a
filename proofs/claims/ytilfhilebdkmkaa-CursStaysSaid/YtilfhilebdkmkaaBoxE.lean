/-
  Boxes: what two have in common; the nearest place; how many.
-/
import Derived.Test.YtilfhilebdkmkaaBoxD
namespace Go.Proofs.Ytilfhilebdkmkaa

open Go Go.RowKit

/-- What two boxes have in common. -/
def meetT (t l b r t' l' b' r' : Int) : Int × Int × Int × Int :=
  if bEm (max t t') (max l l') (min b b') (min r r') = true then (0, 0, 0, 0) else (max t t', max l l', min b b', min r r')
set_option maxRecDepth 100000 in
set_option maxHeartbeats 4000000 in
theorem meet_any (t l b r t' l' b' r' : Int) (w : World) :
    Calls Try.prog 37 #[bV t l b r, bV t' l' b' r'] w fun e w' => e = .returned (bV (meetT t l b r t' l' b' r').1 (meetT t l b r t' l' b' r').2.1 (meetT t l b r t' l' b' r').2.2.1 (meetT t l b r t' l' b' r').2.2.2) ∧ Below w.heap.size w w' := by
  have HS := Lib.hid (fun W => sides_any t l b r W)
  have HT := Lib.hid (fun W => sides_any t' l' b' r' W)
  have HM := Lib.hid (fun W => sMeet_any t b t' b' W)
  have HN := Lib.hid (fun W => sMeet_any l r l' r' W)
  have HO := Lib.hid (fun W => boxOf_any (max t t') (min b b') (max l l') (min r r') W)
  have HE := Lib.hid (fun W => empty_any (max t t') (max l l') (min b b') (min r r') W)
  have HV : Hid ((bEm (max t t') (max l l') (min b b') (min r r') = true → meetT t l b r t' l' b' r' = (0, 0, 0, 0)) ∧ (bEm (max t t') (max l l') (min b b') (min r r') = false → meetT t l b r t' l' b' r' = (max t t', max l l', min b b', min r r'))) :=
    Lib.hid ⟨fun h => if_pos h, fun h => if_neg (by rw [h]; simp)⟩
  generalize max t t' = xt at *
  generalize max l l' = xl at *
  generalize min b b' = xb at *
  generalize min r r' = xr at *
  generalize meetT t l b r t' l' b' r' = res at *
  have HK := Lib.hid (new3 w 29 29 29 (bC t l b r) (bC t' l' b' r') (bC 0 0 0 0))
  unfold bV sV at *
  go_enter Try.func37, Try.ntmps37
  go_wp2_with fail
  refine (HS.out _).mono ?_
  rintro e w1 ⟨rfl, hb1⟩
  have HK1 := Lib.hid (show Blk w1 (w.heap.size + 1) 29 (bC t' l' b' r') ∧ Blk w1 (w.heap.size + 1 + 1) 29 (bC 0 0 0 0) ∧ Below w.heap.size w w1 from ⟨HK.out.2.1.next hb1, HK.out.2.2.1.next hb1, bstep HK.out.2.2.2 hb1⟩)
  obtain ⟨c0, c1, c2, c3, _⟩ := blk4 HK1.out.1
  have hz : w.heap.size + 1 < w1.heap.size := HK1.out.1.lt
  have hz' : w.heap.size < w1.heap.size := by omega
  clear hb1
  go_wp2_with fail
  have HA1 := Lib.hid (new2 w1 85 85 (sC t b) (sC l r))
  refine (HT.out _).mono ?_
  rintro e w2 ⟨rfl, hb2⟩
  have HK2 := Lib.hid (show Blk w2 (w.heap.size + 1 + 1) 29 (bC 0 0 0 0) ∧ Below w.heap.size w w2 ∧ Blk w2 w1.heap.size 85 (sC t b) ∧ Blk w2 (w1.heap.size + 1) 85 (sC l r) from ⟨(HK1.out.2.1.below HA1.out.2.2 (HK1.out.2.1.lt)).next hb2, bstep (bstep HK1.out.2.2 HA1.out.2.2) hb2, HA1.out.1.next hb2, HA1.out.2.1.next hb2⟩)
  clear hb2 c0 c1 c2 c3 hz hz'
  go_wp2_with fail
  have HA2 := Lib.hid (new2 w2 85 85 (sC t' b') (sC l' r'))
  refine world_gen (fun W => Blk W (w.heap.size + 1 + 1) 29 (bC 0 0 0 0) ∧ Below w.heap.size w W ∧ Blk W w1.heap.size 85 (sC t b) ∧ Blk W (w1.heap.size + 1) 85 (sC l r) ∧ Blk W w2.heap.size 85 (sC t' b') ∧ Blk W (w2.heap.size + 1) 85 (sC l' r'))
    ⟨HK2.out.1.below HA2.out.2.2 HK2.out.1.lt, bstep HK2.out.2.1 HA2.out.2.2, HK2.out.2.2.1.below HA2.out.2.2 HK2.out.2.2.1.lt, HK2.out.2.2.2.below HA2.out.2.2 HK2.out.2.2.2.lt, HA2.out.1, HA2.out.2.1⟩ ?_
  intro W ⟨k0, kb, k1, k2, k3, k4⟩
  have HC := Lib.hid (fun w' (h : Only [] W w') => And.intro (blk2 (h.blk k1 (by simp))) (And.intro (blk2 (h.blk k2 (by simp))) (And.intro (blk2 (h.blk k3 (by simp))) (blk2 (h.blk k4 (by simp))))))
  have HB := Lib.hid kb
  have HR := Lib.hid k0
  clear k0 k1 k2 k3 k4 kb
  refine wp_region_mix_lit (by kernel_rfl) [(2, .call (.agg #[.int .i64 xt, .int .i64 xb])), (5, .call (.agg #[.int .i64 xl, .int .i64 xr])), (6, .call (.agg #[.int .i64 xt, .int .i64 xl, .int .i64 xb, .int .i64 xr])), (7, .alloc 8 29 (bC 0 0 0 0) (fun _ => bC xt xl xb xr)), (8, .init 7)] (by kernel_rfl) (by kernel_rfl) (by kernel_rfl) (by rfl) (by simp [apartK] <;> omega) (by simp [startK]) (by simp [stabK]) (⟨fun _ => .pointer (some ⟨W.heap.size, 0, none⟩), by simp [okK]⟩) (fun β hβ => ?_)
  repeat (
    refine lex_val (v := ?_) rfl rfl (fun w' hf => ?_) ?_
    rotate_left
    · obtain ⟨⟨c0, c1, _⟩, ⟨d0, d1, _⟩, ⟨f0, f1, _⟩, g0, g1, _⟩ := HC.out w' hf.only; go_simp
      try rfl
    try simp only [Act.put, List.setIfInBounds_toArray, List.set_cons_zero, List.set_cons_succ])
  refine lex_call (f := 59) (args := ?_) rfl rfl (fun w' hf => ?_) (fun w' hf => ?_) ?_
  rotate_left
  · go_simp
    try rfl
  · exact HM.out w'
  try simp only [Act.put, List.setIfInBounds_toArray, List.set_cons_zero, List.set_cons_succ]
  repeat (
    refine lex_val (v := ?_) rfl rfl (fun w' hf => ?_) ?_
    rotate_left
    · obtain ⟨⟨c0, c1, _⟩, ⟨d0, d1, _⟩, ⟨f0, f1, _⟩, g0, g1, _⟩ := HC.out w' hf.only; go_simp
      try rfl
    try simp only [Act.put, List.setIfInBounds_toArray, List.set_cons_zero, List.set_cons_succ])
  refine lex_call (f := 59) (args := ?_) rfl rfl (fun w' hf => ?_) (fun w' hf => ?_) ?_
  rotate_left
  · go_simp
    try rfl
  · exact HN.out w'
  try simp only [Act.put, List.setIfInBounds_toArray, List.set_cons_zero, List.set_cons_succ]
  refine lex_call (f := 58) (args := ?_) rfl rfl (fun w' hf => ?_) (fun w' hf => ?_) ?_
  rotate_left
  · go_simp
    try rfl
  · exact HO.out w'
  try simp only [Act.put, List.setIfInBounds_toArray, List.set_cons_zero, List.set_cons_succ]
  refine lex_alloc rfl rfl (fun w' => ?_) ?_
  · go_simp
  try simp only [Act.put, List.setIfInBounds_toArray, List.set_cons_zero, List.set_cons_succ]
  refine lex_init rfl rfl rfl (fun b w' hb hf hB => ⟨_, ?_, repl4 hB _ _ _ _⟩) ?_
  · have gB := blk4 hB
    go_simp
  try simp only [Act.put]
  refine lex_nil fun w' he => ?_
  obtain ⟨b9, hb9, hge, hB9⟩ : ∃ b, β 7 = .pointer (some ⟨b, 0, none⟩) ∧ W.heap.size ≤ b ∧ Blk w' b 29 (bC xt xl xb xr) := he.facts 7
  have HR3 := Lib.hid (he.only.blk HR.out (by simp [stores, Kind.at_]))
  have HB3 := Lib.hid (bstep HB.out he.only.below0)
  have HB9 := Lib.hid hB9
  have hne : w.heap.size + 1 + 1 ≠ b9 := by have := HR.out.lt; omega
  obtain ⟨c0, c1, c2, c3, _⟩ := blk4 hB9
  rw [hb9]
  clear hb9 he hβ hge hB9
  go_wp2_with fail
  refine (HE.out _).mono ?_
  rintro e w4 ⟨rfl, hb4⟩
  have HR4 := Lib.hid (HR3.out.next hb4)
  have HB4 := Lib.hid (bstep HB3.out hb4)
  obtain ⟨c0, c1, c2, c3, _⟩ := blk4 (HB9.out.next hb4)
  obtain ⟨_, _, _, _, z0, z1, z2, z3⟩ := blk4 HR4.out
  have HP := Lib.hid (fun u v x y => repl4 HR4.out u v x y)
  have HQ := Lib.hid (fun u v x y => (((HB4.out.setCell (p := ⟨w.heap.size + 1 + 1, 0, none⟩) (by simp; omega) u).setCell (p := ⟨w.heap.size + 1 + 1, 1, none⟩) (by simp; omega) v).setCell (p := ⟨w.heap.size + 1 + 1, 2, none⟩) (by simp; omega) x).setCell (p := ⟨w.heap.size + 1 + 1, 3, none⟩) (by simp; omega) y)
  clear hb4
  cases hx : bEm xt xl xb xr
  · obtain rfl := HV.out.2 hx
    clear hx
    go_wp2_with fail
    obtain ⟨e0, e1, e2, e3, _⟩ := blk4 (HP.out (.int .i64 xt) (.int .i64 xl) (.int .i64 xb) (.int .i64 xr)).here
    exact bodyPost_ret (v := .agg #[.int .i64 xt, .int .i64 xl, .int .i64 xb, .int .i64 xr]) (by simp [results, Try.results37, go_sem, e0, e1, e2, e3]) rfl ⟨rfl, HQ.out _ _ _ _⟩
  · obtain rfl := HV.out.1 hx
    clear hx
    go_wp2_with fail
    obtain ⟨e0, e1, e2, e3, _⟩ := blk4 (HP.out (.int .i64 0) (.int .i64 0) (.int .i64 0) (.int .i64 0)).here
    exact bodyPost_ret (v := .agg #[.int .i64 0, .int .i64 0, .int .i64 0, .int .i64 0]) (by simp [results, Try.results37, go_sem, e0, e1, e2, e3]) rfl ⟨rfl, HQ.out _ _ _ _⟩
end Go.Proofs.Ytilfhilebdkmkaa

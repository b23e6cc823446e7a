/-
  Boxes: the nearest place; how many rows and columns.
-/
import Derived.Test.YtilfhilebdkmkaaBoxD
namespace Go.Proofs.Ytilfhilebdkmkaa

open Go Go.RowKit

def Sm (x : Int) : Prop := -1000000 ≤ x ∧ x ≤ 1000000
theorem bEm_false {t l b r : Int} (h : bEm t l b r = false) : t < b ∧ l < r := by
  unfold bEm emB at h
  simp at h
  omega
theorem bEm_true {t l b r : Int} (h : bEm t l b r = true) : b ≤ t ∨ r ≤ l := by
  unfold bEm emB at h
  simpa using h
def clampT (t l b r p q : Int) : Int × Int := if bEm t l b r = true then (t, l) else (clipP p t (b - 1), clipP q l (r - 1))
set_option maxRecDepth 100000 in
set_option maxHeartbeats 4000000 in
theorem bclamp_any (t l b r p q : Int) (_ht : Sm t) (_hl : Sm l) (hb0 : Sm b) (hr : Sm r) (w : World) :
    Calls Try.prog 43 #[bV t l b r, pV p q] w fun e w' => e = .returned (pV (clampT t l b r p q).1 (clampT t l b r p q).2) ∧ Below w.heap.size w w' := by
  unfold Sm at *
  have HS := Lib.hid (fun W => sides_any t l b r W)
  have HE := Lib.hid (fun W => empty_any t l b r W)
  have HN1 := Lib.hid (fun W => nearest_any t b p (by omega) (by omega) W)
  have HN2 := Lib.hid (fun W => nearest_any l r q (by omega) (by omega) W)
  have HV : Hid ((bEm t l b r = true → clampT t l b r p q = (t, l)) ∧ (bEm t l b r = false → clampT t l b r p q = (clipP p t (b - 1), clipP q l (r - 1)))) :=
    Lib.hid ⟨fun h => if_pos h, fun h => if_neg (by rw [h]; simp)⟩
  generalize clipP p t (b - 1) = x at *
  generalize clipP q l (r - 1) = y at *
  generalize clampT t l b r p q = res at *
  clear _ht _hl hb0 hr
  have HK := Lib.hid (new3 w 29 41 41 (bC t l b r) (sC p q) (sC 0 0))
  unfold bV sV pV at *
  cases hx : bEm t l b r
  · obtain rfl := HV.out.2 hx
    rw [hx] at HE
    clear hx HV
    go_enter Try.func43, Try.ntmps43
    go_wp2_with fail
    refine (HE.out _).mono ?_
    rintro e w1 ⟨rfl, hb1⟩
    have HK1 := Lib.hid (show Blk w1 w.heap.size 29 (bC t l b r) ∧ Blk w1 (w.heap.size + 1) 41 (sC p q) ∧ Blk w1 (w.heap.size + 1 + 1) 41 (sC 0 0) ∧ Below w.heap.size w w1 from ⟨HK.out.1.next hb1, HK.out.2.1.next hb1, HK.out.2.2.1.next hb1, bstep HK.out.2.2.2 hb1⟩)
    obtain ⟨c0, c1, c2, c3, _⟩ := blk4 HK1.out.1
    clear hb1
    go_wp2_with fail
    refine (HS.out _).mono ?_
    rintro e w2 ⟨rfl, hb2⟩
    have HK2 := Lib.hid (show Blk w2 (w.heap.size + 1) 41 (sC p q) ∧ Blk w2 (w.heap.size + 1 + 1) 41 (sC 0 0) ∧ Below w.heap.size w w2 from ⟨HK1.out.2.1.next hb2, HK1.out.2.2.1.next hb2, bstep HK1.out.2.2.2 hb2⟩)
    clear hb2 c0 c1 c2 c3
    go_wp2_with fail
    have HA2 := Lib.hid (new2 w2 85 85 (sC t b) (sC l r))
    refine world_gen (fun W => Blk W (w.heap.size + 1) 41 (sC p q) ∧ Blk W (w.heap.size + 1 + 1) 41 (sC 0 0) ∧ Below w.heap.size w W ∧ Blk W w2.heap.size 85 (sC t b) ∧ Blk W (w2.heap.size + 1) 85 (sC l r) ∧ w.heap.size + 1 + 1 < w2.heap.size)
      ⟨HK2.out.1.below HA2.out.2.2 HK2.out.1.lt, HK2.out.2.1.below HA2.out.2.2 HK2.out.2.1.lt, bstep HK2.out.2.2 HA2.out.2.2, HA2.out.1, HA2.out.2.1, HK2.out.2.1.lt⟩ ?_
    intro W ⟨k0, k1, kb, k2, k3, hlt⟩
    have HC := Lib.hid (fun w' (h : Only [w.heap.size + 1 + 1] W w') => And.intro (blk2 (h.blk k0 (by simp))) (And.intro (blk2 (h.blk k2 (by simp; omega))) (blk2 (h.blk k3 (by simp; omega)))))
    have HB := Lib.hid kb
    have HR := Lib.hid k1
    clear k0 k1 k2 k3 kb hlt
    refine wp_region_mix_lit (by kernel_rfl) [(3, .call (.int .i64 x)), (7, .call (.int .i64 y)), (9, .store (w.heap.size + 1 + 1) 41 (sC 0 0) (fun _ => sC x y))] (by kernel_rfl) (by kernel_rfl) (by kernel_rfl) (by rfl) (by simp [apartK] <;> omega) (by simp [startK]; exact HR.out) (by simp [stabK]) (⟨fun _ => undef, by simp [okK]⟩) (fun β hβ => ?_)
    repeat (
      refine lex_val (v := ?_) rfl rfl (fun w' hf => ?_) ?_
      rotate_left
      · obtain ⟨⟨c0, c1, _⟩, ⟨d0, d1, _⟩, f0, f1, _⟩ := HC.out w' hf.only; go_simp
        try rfl
      try simp only [Act.put, List.setIfInBounds_toArray, List.set_cons_zero, List.set_cons_succ])
    refine lex_call (f := 62) (args := ?_) rfl rfl (fun w' hf => ?_) (fun w' hf => ?_) ?_
    rotate_left
    · go_simp
      try rfl
    · exact HN1.out w'
    try simp only [Act.put, List.setIfInBounds_toArray, List.set_cons_zero, List.set_cons_succ]
    repeat (
      refine lex_val (v := ?_) rfl rfl (fun w' hf => ?_) ?_
      rotate_left
      · obtain ⟨⟨c0, c1, _⟩, ⟨d0, d1, _⟩, f0, f1, _⟩ := HC.out w' hf.only; go_simp
        try rfl
      try simp only [Act.put, List.setIfInBounds_toArray, List.set_cons_zero, List.set_cons_succ])
    refine lex_call (f := 62) (args := ?_) rfl rfl (fun w' hf => ?_) (fun w' hf => ?_) ?_
    rotate_left
    · go_simp
      try rfl
    · exact HN2.out w'
    try simp only [Act.put, List.setIfInBounds_toArray, List.set_cons_zero, List.set_cons_succ]
    repeat (
      refine lex_val (v := ?_) rfl rfl (fun w' hf => ?_) ?_
      rotate_left
      · go_simp
        try rfl
      try simp only [Act.put, List.setIfInBounds_toArray, List.set_cons_zero, List.set_cons_succ])
    refine lex_store rfl rfl (fun w' hf hB => ⟨_, ?_, repl2 hB _ _⟩) ?_
    · have gB := blk2 hB
      go_simp
    try simp only [Act.put]
    refine lex_nil fun w' he => ?_
    obtain ⟨e0, e1, _⟩ := blk2 (he.facts 9)
    have HB3 := Lib.hid (HB.out.trans (he.only.below (B := w.heap.size) HB.out.size (by simp [stores, Kind.at_] <;> omega)))
    clear he
    go_wp2_with fail
    exact bodyPost_ret (v := .agg #[.int .i64 x, .int .i64 y]) (by simp [results, Try.results43, go_sem, e0, e1]) rfl ⟨rfl, HB3.out⟩
  · obtain rfl := HV.out.1 hx
    rw [hx] at HE
    clear hx HV
    go_enter Try.func43, Try.ntmps43
    go_wp2_with fail
    refine (HE.out _).mono ?_
    rintro e w1 ⟨rfl, hb1⟩
    obtain ⟨c0, c1, c2, c3, _⟩ := blk4 (HK.out.1.next hb1)
    have HK1 := Lib.hid (HK.out.2.2.1.next hb1)
    obtain ⟨_, _, z0, z1⟩ := blk2 HK1.out
    have HB1 := Lib.hid (bstep HK.out.2.2.2 hb1)
    clear hb1
    go_wp2_with fail
    obtain ⟨e0, e1, _⟩ := blk2 (repl2 HK1.out (.int .i64 t) (.int .i64 l)).here
    exact bodyPost_ret (v := .agg #[.int .i64 t, .int .i64 l]) (by simp [results, Try.results43, go_sem, e0, e1]) rfl ⟨rfl, (HB1.out.setCell (by simp; omega) _).setCell (by simp; omega) _⟩

set_option maxRecDepth 100000 in
set_option maxHeartbeats 4000000 in
theorem size_any (t l b r : Int) (ht : Sm t) (hl : Sm l) (hb0 : Sm b) (hr : Sm r) (w : World) :
    Calls Try.prog 55 #[bV t l b r] w fun e w' => e = .returned (.tuple #[.int .i64 (if bEm t l b r = true then 0 else b - t), .int .i64 (if bEm t l b r = true then 0 else r - l)]) ∧ Below w.heap.size w w' := by
  unfold Sm at *
  have HS := Lib.hid (fun W => sides_any t l b r W)
  have HE := Lib.hid (fun W => empty_any t l b r W)
  have HN1 := Lib.hid (fun W => count_any t b (by omega) (by omega) W)
  have HN2 := Lib.hid (fun W => count_any l r (by omega) (by omega) W)
  clear ht hl hb0 hr
  cases hx : bEm t l b r
  · rw [show cntP t b = b - t from if_neg (by have := bEm_false hx; omega)] at HN1
    rw [show cntP l r = r - l from if_neg (by have := bEm_false hx; omega)] at HN2
    rw [hx] at HE
    clear hx
    rw [if_neg Bool.false_ne_true, if_neg Bool.false_ne_true]
    generalize b - t = x at *
    generalize r - l = y at *
    unfold bV sV at *
    go_enter Try.func55, Try.ntmps55
    go_wp2_with fail
    refine (HE.out _).mono ?_
    rintro e w1 ⟨rfl, hb1⟩
    obtain ⟨c0, c1, c2, c3, _⟩ := blk4 ((new1 w 29 (bC t l b r)).1.next hb1)
    have HB1 := Lib.hid (bstep (new1 w _ _).2 hb1)
    clear hb1
    go_wp2_with fail
    refine (HS.out _).mono ?_
    rintro e w2 ⟨rfl, hb2⟩
    have HB2 := Lib.hid (bstep HB1.out hb2)
    clear hb2 c0 c1 c2 c3
    go_wp2_with fail
    refine world_gen (fun W => Below w.heap.size w W ∧ Blk W w2.heap.size 85 (sC t b) ∧ Blk W (w2.heap.size + 1) 85 (sC l r))
      ⟨bstep HB2.out (new2 w2 _ _ _ _).2.2, (new2 w2 _ _ _ _).1, (new2 w2 _ _ _ _).2.1⟩ ?_
    intro W ⟨kb, k2, k3⟩
    have HC := Lib.hid (fun w' (h : Only [] W w') => And.intro (blk2 (h.blk k2 (by simp))) (blk2 (h.blk k3 (by simp))))
    have HB := Lib.hid kb
    clear k2 k3 kb
    refine wp_region_mix_lit (by kernel_rfl) [(1, .call (.int .i64 x)), (3, .call (.int .i64 y))] (by kernel_rfl) (by kernel_rfl) (by kernel_rfl) (by rfl) (by simp [apartK] <;> omega) (by simp [startK]) (by simp [stabK]) (⟨fun _ => undef, by simp [okK]⟩) (fun β hβ => ?_)
    repeat (
      refine lex_val (v := ?_) rfl rfl (fun w' hf => ?_) ?_
      rotate_left
      · obtain ⟨⟨c0, c1, _⟩, d0, d1, _⟩ := HC.out w' hf.only; go_simp
        try rfl
      try simp only [Act.put, List.setIfInBounds_toArray, List.set_cons_zero, List.set_cons_succ])
    refine lex_call (f := 65) (args := ?_) rfl rfl (fun w' hf => ?_) (fun w' hf => ?_) ?_
    rotate_left
    · go_simp
      try rfl
    · exact HN1.out w'
    try simp only [Act.put, List.setIfInBounds_toArray, List.set_cons_zero, List.set_cons_succ]
    repeat (
      refine lex_val (v := ?_) rfl rfl (fun w' hf => ?_) ?_
      rotate_left
      · obtain ⟨⟨c0, c1, _⟩, d0, d1, _⟩ := HC.out w' hf.only; go_simp
        try rfl
      try simp only [Act.put, List.setIfInBounds_toArray, List.set_cons_zero, List.set_cons_succ])
    refine lex_call (f := 65) (args := ?_) rfl rfl (fun w' hf => ?_) (fun w' hf => ?_) ?_
    rotate_left
    · go_simp
      try rfl
    · exact HN2.out w'
    try simp only [Act.put, List.setIfInBounds_toArray, List.set_cons_zero, List.set_cons_succ]
    repeat (
      refine lex_val (v := ?_) rfl rfl (fun w' hf => ?_) ?_
      rotate_left
      · go_simp
        try rfl
      try simp only [Act.put, List.setIfInBounds_toArray, List.set_cons_zero, List.set_cons_succ])
    refine lex_nil fun w' he => ?_
    have HB3 := Lib.hid (bstep HB.out he.only.below0)
    clear he
    go_wp2_with fail
    go_ret2
    exact ⟨rfl, HB3.out⟩
  · rw [hx] at HE
    clear hx HN1 HN2
    unfold bV sV at *
    go_enter Try.func55, Try.ntmps55
    go_wp2_with fail
    refine (HE.out _).mono ?_
    rintro e w1 ⟨rfl, hb1⟩
    have HB1 := Lib.hid (bstep (new1 w _ _).2 hb1)
    clear hb1
    go_wp2_with fail
    go_ret2
    exact ⟨rfl, HB1.out⟩
end Go.Proofs.Ytilfhilebdkmkaa

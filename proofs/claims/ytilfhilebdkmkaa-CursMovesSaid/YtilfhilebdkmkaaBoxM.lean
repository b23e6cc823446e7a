/-
  Boxes, the document's own answers: the nearest place, margins, a number of a list.
-/
import Derived.Test.YtilfhilebdkmkaaBoxK
import Derived.Test.YtilfhilebdkmkaaBoxF
import Derived.Test.YtilfhilebdkmkaaBoxH
namespace Go.Proofs.Ytilfhilebdkmkaa

open Go Go.RowKit

def refClampT (t l b r p q : Int) : Int × Int := if bEm t l b r = true then (t, l) else (nearP p t b, nearP q l r)
set_option maxRecDepth 100000 in
set_option maxHeartbeats 4000000 in
theorem refBClamp_any (t l b r p q : Int) (_ht : Sm t) (_hl : Sm l) (hb0 : Sm b) (hr : Sm r) (w : World) :
    Calls Try.prog 35 #[bV t l b r, pV p q] w fun e w' => e = .returned (pV (refClampT t l b r p q).1 (refClampT t l b r p q).2) ∧ Below w.heap.size w w' := by
  unfold Sm at *
  have HE := Lib.hid (fun W => refEmpty_any t l b r W)
  have HN1 := Lib.hid (fun W => calls_same (near_any p t b (by omega) (by omega) W))
  have HN2 := Lib.hid (fun W => calls_same (near_any q l r (by omega) (by omega) W))
  have HV : Hid ((bEm t l b r = true → refClampT t l b r p q = (t, l)) ∧ (bEm t l b r = false → refClampT t l b r p q = (nearP p t b, nearP q l r))) :=
    Lib.hid ⟨fun h => if_pos h, fun h => if_neg (by rw [h]; simp)⟩
  generalize nearP p t b = x at *
  generalize nearP q l r = y at *
  generalize refClampT t l b r p q = res at *
  clear _ht _hl hb0 hr
  have HK := Lib.hid (new3 w 29 41 41 (bC t l b r) (sC p q) (sC 0 0))
  unfold bV pV at *
  cases hx : bEm t l b r
  · obtain rfl := HV.out.2 hx
    rw [hx] at HE
    clear hx HV
    go_enter Try.func35, Try.ntmps35
    go_wp2_with fail
    refine (HE.out _).mono ?_
    rintro e w1 ⟨rfl, hb1⟩
    go_wp2_with fail
    refine world_gen (fun W => Blk W w.heap.size 29 (bC t l b r) ∧ Blk W (w.heap.size + 1) 41 (sC p q) ∧ Blk W (w.heap.size + 1 + 1) 41 (sC 0 0) ∧ Below w.heap.size w W)
      ⟨HK.out.1.next hb1, HK.out.2.1.next hb1, HK.out.2.2.1.next hb1, bstep HK.out.2.2.2 hb1⟩ ?_
    intro W ⟨k0, k1, k2, kb⟩
    clear hb1
    have HC := Lib.hid (fun w' (h : Only [w.heap.size + 1 + 1] W w') => And.intro (blk4 (h.blk k0 (by simp; omega))) (blk2 (h.blk k1 (by simp))))
    have HB := Lib.hid kb
    have HP := Lib.hid k2
    clear k0 k1 k2 kb
    refine wp_region_mix_lit (by kernel_rfl) [(6, .call (.int .i64 x)), (13, .call (.int .i64 y)), (15, .store (w.heap.size + 1 + 1) 41 (sC 0 0) (fun _ => sC x y))] (by kernel_rfl) (by kernel_rfl) (by kernel_rfl) (by rfl) (by simp [apartK] <;> omega) (by simp [startK]; exact HP.out) (by simp [stabK]) (⟨fun _ => undef, by simp [okK]⟩) (fun β hβ => ?_)
    repeat (
      refine lex_val (v := ?_) rfl rfl (fun w' hf => ?_) ?_
      rotate_left
      · obtain ⟨⟨c0, c1, c2, c3, _⟩, d0, d1, _⟩ := HC.out w' hf.only; go_simp
        try rfl
      try simp only [Act.put, List.setIfInBounds_toArray, List.set_cons_zero, List.set_cons_succ])
    refine lex_call (f := 56) (args := ?_) rfl rfl (fun w' hf => ?_) (fun w' hf => ?_) ?_
    rotate_left
    · go_simp
      try rfl
    · exact HN1.out w'
    try simp only [Act.put, List.setIfInBounds_toArray, List.set_cons_zero, List.set_cons_succ]
    repeat (
      refine lex_val (v := ?_) rfl rfl (fun w' hf => ?_) ?_
      rotate_left
      · obtain ⟨⟨c0, c1, c2, c3, _⟩, d0, d1, _⟩ := HC.out w' hf.only; go_simp
        try rfl
      try simp only [Act.put, List.setIfInBounds_toArray, List.set_cons_zero, List.set_cons_succ])
    refine lex_call (f := 56) (args := ?_) rfl rfl (fun w' hf => ?_) (fun w' hf => ?_) ?_
    rotate_left
    · go_simp
      try rfl
    · exact HN2.out w'
    try simp only [Act.put, List.setIfInBounds_toArray, List.set_cons_zero, List.set_cons_succ]
    repeat (
      refine lex_val (v := ?_) rfl rfl (fun w' hf => ?_) ?_
      rotate_left
      · go_simp
        try rfl
      try simp only [Act.put, List.setIfInBounds_toArray, List.set_cons_zero, List.set_cons_succ])
    refine lex_store rfl rfl (fun w' hf hB => ⟨_, ?_, repl2 hB _ _⟩) ?_
    · have gB := blk2 hB
      go_simp
    try simp only [Act.put]
    refine lex_nil fun w' he => ?_
    obtain ⟨e0, e1, _⟩ := blk2 (he.facts 15)
    have HB3 := Lib.hid (HB.out.trans (he.only.below (B := w.heap.size) HB.out.size (by simp [stores, Kind.at_] <;> omega)))
    clear he
    go_wp2_with fail
    exact bodyPost_ret (v := .agg #[.int .i64 x, .int .i64 y]) (by simp [results, Try.results35, go_sem, e0, e1]) rfl ⟨rfl, HB3.out⟩
  · obtain rfl := HV.out.1 hx
    rw [hx] at HE
    clear hx HV
    go_enter Try.func35, Try.ntmps35
    go_wp2_with fail
    refine (HE.out _).mono ?_
    rintro e w1 ⟨rfl, hb1⟩
    obtain ⟨c0, c1, c2, c3, _⟩ := blk4 (HK.out.1.next hb1)
    have HK1 := Lib.hid (HK.out.2.2.1.next hb1)
    obtain ⟨_, _, z0, z1⟩ := blk2 HK1.out
    have HB1 := Lib.hid (bstep HK.out.2.2.2 hb1)
    clear hb1
    go_wp2_with fail
    obtain ⟨e0, e1, _⟩ := blk2 (repl2 HK1.out (.int .i64 t) (.int .i64 l)).here
    exact bodyPost_ret (v := .agg #[.int .i64 t, .int .i64 l]) (by simp [results, Try.results35, go_sem, e0, e1]) rfl ⟨rfl, (HB1.out.setCell (by simp; omega) _).setCell (by simp; omega) _⟩

def refSpanT (n first last : Int) : Int × Int × Bool :=
  if first < 0 ∨ last < 0 ∨ n < 2 then (0, 0, false) else
  if (if first = 0 then 1 else first) < (if last = 0 ∨ n < last then n else last) then ((if first = 0 then 1 else first) - 1, (if last = 0 ∨ n < last then n else last), true) else (0, 0, false)

end Go.Proofs.Ytilfhilebdkmkaa

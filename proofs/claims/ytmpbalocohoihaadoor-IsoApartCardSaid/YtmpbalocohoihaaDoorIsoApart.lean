/-
  IsoApart holds, whatever the input: the card of the statement, with the table of the sets' faces and the library's two tables of blanks tied to the program's text.
-/
import Derived.Test.YtmpbalocohoihaaDoorCards
import Derived.Test.YtmpbalocohoihaaDoorTie
import Derived.Test.YtmpbalocohoihaaDoorFrameW
import Derived.Test.YtmpbalocohoihaaDoorIsoF
import Derived.Test.YtmpbalocohoihaaDoorFrameI
namespace Go.Proofs.YtmpbalocohoihaaDoor.isoApart
open Go.ChangeShapes Go.WideShapes Go.ChangeAt Go.RowKit
open Go.ChangeMaps (open_string)

theorem leftI_cs (x : Iso) (g : Int) : ∃ l', leftI x g = { x with l := l' } ∧ ∀ y : Iso, leftI { y with l := x.l } g = { y with l := l' } := by
  unfold leftI
  by_cases h : inB 0 g = true
  · rw [if_pos h]
    exact ⟨g, rfl, fun y => by rw [if_pos h]⟩
  · rw [if_neg h]
    exact ⟨x.l, rfl, fun y => by rw [if_neg h]⟩
theorem rightI_cs (x : Iso) (g : Int) : ∃ r', rightI x g = { x with r := r' } ∧ ∀ y : Iso, rightI { y with r := x.r } g = { y with r := r' } := by
  unfold rightI
  by_cases h : inB 1 g = true
  · rw [if_pos h]
    exact ⟨g, rfl, fun y => by rw [if_pos h]⟩
  · rw [if_neg h]
    exact ⟨x.r, rfl, fun y => by rw [if_neg h]⟩
set_option maxRecDepth 100000 in
set_option maxHeartbeats 16000000 in
theorem walk (a b c d l r s : Int) (p q : Int) (w : World) (ht : Faces w) (hs : Blanks w) :
    Calls Tryd.prog 10 #[.agg #[.int .i64 a, .int .i64 b, .int .i64 c, .int .i64 d, .int .i64 l, .int .i64 r, .int .i64 s], .int .i64 p, .int .i64 q] w fun e w' => e = .returned (.bool true) ∧ Below w.heap.size w w' := by
  have HAw := Lib.hid (fun W t s => isoAwake_any W t s)
  have HOw : Hid (∀ W, Calls Tryd.prog 24 #[.agg #[.int .i64 a, .int .i64 b, .int .i64 c, .int .i64 d, .int .i64 l, .int .i64 r, .int .i64 s]] W fun e w' => e = .returned (.agg #[.int .i64 a, .int .i64 b, .int .i64 c, .int .i64 d, .int .i64 l, .int .i64 r, .int .i64 s]) ∧ Below W.heap.size W w') := Lib.hid (fun W => lawOwn_any ⟨a, b, c, d, l, r, s⟩ W)
  obtain ⟨l', hl1, hl2⟩ := leftI_cs ⟨a, b, c, d, l, r, s⟩ p
  obtain ⟨r', hr1, hr2⟩ := rightI_cs ⟨a, b, c, d, l, r, s⟩ q
  have HL : Hid (∀ W, Calls Tryd.prog 35 #[.agg #[.int .i64 a, .int .i64 b, .int .i64 c, .int .i64 d, .int .i64 l, .int .i64 r, .int .i64 s], .int .i64 p] W fun e w' => e = .returned (.agg #[.int .i64 a, .int .i64 b, .int .i64 c, .int .i64 d, .int .i64 l', .int .i64 r, .int .i64 s]) ∧ Below W.heap.size W w') := Lib.hid (fun W => by
    have := isoLeft_any ⟨a, b, c, d, l, r, s⟩ p W
    rw [hl1] at this
    exact this)
  have HLr : Hid (∀ W, Calls Tryd.prog 35 #[.agg #[.int .i64 a, .int .i64 b, .int .i64 c, .int .i64 d, .int .i64 l, .int .i64 r', .int .i64 s], .int .i64 p] W fun e w' => e = .returned (.agg #[.int .i64 a, .int .i64 b, .int .i64 c, .int .i64 d, .int .i64 l', .int .i64 r', .int .i64 s]) ∧ Below W.heap.size W w') := Lib.hid (fun W => by
    have := isoLeft_any ⟨a, b, c, d, l, r', s⟩ p W
    rw [show leftI ⟨a, b, c, d, l, r', s⟩ p = ⟨a, b, c, d, l', r', s⟩ from hl2 ⟨a, b, c, d, l, r', s⟩] at this
    exact this)
  have HR : Hid (∀ W, Calls Tryd.prog 36 #[.agg #[.int .i64 a, .int .i64 b, .int .i64 c, .int .i64 d, .int .i64 l, .int .i64 r, .int .i64 s], .int .i64 q] W fun e w' => e = .returned (.agg #[.int .i64 a, .int .i64 b, .int .i64 c, .int .i64 d, .int .i64 l, .int .i64 r', .int .i64 s]) ∧ Below W.heap.size W w') := Lib.hid (fun W => by
    have := isoRight_any ⟨a, b, c, d, l, r, s⟩ q W
    rw [hr1] at this
    exact this)
  have HRl : Hid (∀ W, Calls Tryd.prog 36 #[.agg #[.int .i64 a, .int .i64 b, .int .i64 c, .int .i64 d, .int .i64 l', .int .i64 r, .int .i64 s], .int .i64 q] W fun e w' => e = .returned (.agg #[.int .i64 a, .int .i64 b, .int .i64 c, .int .i64 d, .int .i64 l', .int .i64 r', .int .i64 s]) ∧ Below W.heap.size W w') := Lib.hid (fun W => by
    have := isoRight_any ⟨a, b, c, d, l', r, s⟩ q W
    rw [show rightI ⟨a, b, c, d, l', r, s⟩ q = ⟨a, b, c, d, l', r', s⟩ from hr2 ⟨a, b, c, d, l', r, s⟩] at this
    exact this)
  clear hl1 hl2 hr1 hr2
  have HK0 := Lib.hid (show Below w.heap.size w (w.alloc (.cells #[.int .i64 a, .int .i64 b, .int .i64 c, .int .i64 d, .int .i64 l, .int .i64 r, .int .i64 s] 35)) from (Below.refl _ _).alloc (Nat.le_refl _) _)
  have HX0 := Lib.hid (Blk.new w 35 #[.int .i64 a, .int .i64 b, .int .i64 c, .int .i64 d, .int .i64 l, .int .i64 r, .int .i64 s])
  have HT := Lib.hid ht; have HS := Lib.hid hs
  clear ht hs
  go_enter Tryd.func10, Tryd.ntmps10
  go_wp2_with fail
  refine (HAw.out _ (HT.out.next HK0.out) (HS.out.next HK0.out)).mono ?_
  rintro e w1 ⟨rfl, hb1⟩
  have HX1 := Lib.hid (HX0.out.next hb1); have HB1 := Lib.hid (HK0.out.trans (hb1.mono HK0.out.size))
  clear hb1
  obtain ⟨c0, c1, c2, c3, c4, c5, c6⟩ := seven HX1.out
  go_wp2_with fail
  refine (HOw.out _).mono ?_
  rintro e w2 ⟨rfl, hb2⟩
  have HB2 := Lib.hid (HB1.out.trans (hb2.mono HB1.out.size))
  clear hb2 c0 c1 c2 c3 c4 c5 c6
  go_wp2_with fail
  have HB3 := Lib.hid (HB2.out.alloc HB2.out.size (.cells #[.int .i64 a, .int .i64 b, .int .i64 c, .int .i64 d, .int .i64 l, .int .i64 r, .int .i64 s] 37))
  have HX3 := Lib.hid (Blk.new w2 37 #[.int .i64 a, .int .i64 b, .int .i64 c, .int .i64 d, .int .i64 l, .int .i64 r, .int .i64 s])
  generalize w2.heap.size = f at *
  generalize w2.alloc (.cells #[.int .i64 a, .int .i64 b, .int .i64 c, .int .i64 d, .int .i64 l, .int .i64 r, .int .i64 s] 37) = W1 at *
  have HC := Lib.hid (fun w' (h : Only [] W1 w') => seven (HX3.out.next h.below0))
  refine wp_region_mix_lit (by kernel_rfl) [(2, .call (.agg #[.int .i64 a, .int .i64 b, .int .i64 c, .int .i64 d, .int .i64 l', .int .i64 r, .int .i64 s])), (5, .call (.agg #[.int .i64 a, .int .i64 b, .int .i64 c, .int .i64 d, .int .i64 l, .int .i64 r', .int .i64 s])), (6, .alloc 8 37 #[.int .i64 0, .int .i64 0, .int .i64 0, .int .i64 0, .int .i64 0, .int .i64 0, .int .i64 0] (fun _ => #[.int .i64 a, .int .i64 b, .int .i64 c, .int .i64 d, .int .i64 l', .int .i64 r, .int .i64 s])), (7, .alloc 9 37 #[.int .i64 0, .int .i64 0, .int .i64 0, .int .i64 0, .int .i64 0, .int .i64 0, .int .i64 0] (fun _ => #[.int .i64 a, .int .i64 b, .int .i64 c, .int .i64 d, .int .i64 l, .int .i64 r', .int .i64 s])), (8, .init 6), (9, .init 7)] (by kernel_rfl) (by kernel_rfl) (by kernel_rfl) (by rfl) (by simp [apartK] <;> omega) (by simp [startK]) (by simp [stabK]) (⟨fun _ => .pointer (some ⟨W1.heap.size, 0, none⟩), by simp [okK]⟩) (fun β hβ => ?_)
  repeat (
    refine lex_val (v := ?_) rfl rfl (fun w' hf => ?_) ?_
    rotate_left
    · obtain ⟨c0, c1, c2, c3, c4, c5, c6⟩ := HC.out w' hf.only; go_simp
      try rfl
    try simp only [Act.put, List.setIfInBounds_toArray, List.set_cons_zero, List.set_cons_succ])
  refine lex_call (f := 35) (args := ?_) rfl rfl (fun w' hf => ?_) (fun w' hf => ?_) ?_
  rotate_left
  · go_simp
    try rfl
  · exact HL.out w'
  try simp only [Act.put, List.setIfInBounds_toArray, List.set_cons_zero, List.set_cons_succ]
  repeat (
    refine lex_val (v := ?_) rfl rfl (fun w' hf => ?_) ?_
    rotate_left
    · obtain ⟨c0, c1, c2, c3, c4, c5, c6⟩ := HC.out w' hf.only; go_simp
      try rfl
    try simp only [Act.put, List.setIfInBounds_toArray, List.set_cons_zero, List.set_cons_succ])
  refine lex_call (f := 36) (args := ?_) rfl rfl (fun w' hf => ?_) (fun w' hf => ?_) ?_
  rotate_left
  · go_simp
    try rfl
  · exact HR.out w'
  try simp only [Act.put, List.setIfInBounds_toArray, List.set_cons_zero, List.set_cons_succ]
  refine lex_alloc rfl rfl (fun w' => ?_) ?_
  · go_simp
  try simp only [Act.put, List.setIfInBounds_toArray, List.set_cons_zero, List.set_cons_succ]
  refine lex_alloc rfl rfl (fun w' => ?_) ?_
  · go_simp
  try simp only [Act.put, List.setIfInBounds_toArray, List.set_cons_zero, List.set_cons_succ]
  refine lex_init rfl rfl rfl (fun bl w' hb hf hB => ⟨_, ?_, repl7 hB (.int .i64 a) (.int .i64 b) (.int .i64 c) (.int .i64 d) (.int .i64 l') (.int .i64 r) (.int .i64 s)⟩) ?_
  · obtain ⟨z0, z1, z2, z3, z4, z5, z6⟩ := seven hB
    obtain ⟨f0, f1, f2, f3, f4, f5, f6⟩ := seven_fr hB
    unfold put7
    go_simp
  try simp only [Act.put]
  refine lex_init rfl rfl rfl (fun bl w' hb hf hB => ⟨_, ?_, repl7 hB (.int .i64 a) (.int .i64 b) (.int .i64 c) (.int .i64 d) (.int .i64 l) (.int .i64 r') (.int .i64 s)⟩) ?_
  · obtain ⟨z0, z1, z2, z3, z4, z5, z6⟩ := seven hB
    obtain ⟨f0, f1, f2, f3, f4, f5, f6⟩ := seven_fr hB
    unfold put7
    go_simp
  try simp only [Act.put]
  refine lex_nil fun W2 he => ?_
  obtain ⟨g1, hg1, hge1, hk1⟩ := he.facts 6
  obtain ⟨g2, hg2, hge2, hk2⟩ := he.facts 7
  have HBl := Lib.hid (show Blk W2 g1 37 #[.int .i64 a, .int .i64 b, .int .i64 c, .int .i64 d, .int .i64 l', .int .i64 r, .int .i64 s] from hk1)
  have HBr := Lib.hid (show Blk W2 g2 37 #[.int .i64 a, .int .i64 b, .int .i64 c, .int .i64 d, .int .i64 l, .int .i64 r', .int .i64 s] from hk2)
  have HX4 := Lib.hid (HX3.out.next he.only.below0)
  have HB4 := Lib.hid (HB3.out.trans (he.only.below0.mono HB3.out.size))
  rw [hg1, hg2]
  clear he hk1 hk2 hge1 hge2 hg1 hg2 HC
  have HC2 := Lib.hid (fun w' (h : Only [] W2 w') => seven (HX4.out.next h.below0))
  have HCl := Lib.hid (fun w' (h : Only [] W2 w') => seven (HBl.out.next h.below0))
  have HCr := Lib.hid (fun w' (h : Only [] W2 w') => seven (HBr.out.next h.below0))
  have hna : ∀ W, _ := fun W => neq_arr W a b c d
  have hni : ∀ W, _ := fun W => neq_iso W a b c d l' r' s
  have hga : ∀ W p q xs ys, _ := fun W p q xs ys => guard_arr W .neq p q xs ys
  have hgi : ∀ W p q xs ys, _ := fun W p q xs ys => guard_iso W .neq p q xs ys
  go_wp2_with fail
  refine wp_region_mix_lit (by kernel_rfl) [(29, .call (.agg #[.int .i64 a, .int .i64 b, .int .i64 c, .int .i64 d, .int .i64 l', .int .i64 r, .int .i64 s])), (31, .call (.agg #[.int .i64 a, .int .i64 b, .int .i64 c, .int .i64 d, .int .i64 l', .int .i64 r', .int .i64 s])), (34, .call (.agg #[.int .i64 a, .int .i64 b, .int .i64 c, .int .i64 d, .int .i64 l, .int .i64 r', .int .i64 s])), (36, .call (.agg #[.int .i64 a, .int .i64 b, .int .i64 c, .int .i64 d, .int .i64 l', .int .i64 r', .int .i64 s]))] (by kernel_rfl) (by kernel_rfl) (by kernel_rfl) (by rfl) (by simp [apartK] <;> omega) (by simp [startK]) (by simp [stabK]) (⟨fun _ => undef, by simp [okK]⟩) (fun β hβ => ?_)
  repeat (
    refine lex_val (v := ?_) rfl rfl (fun w' hf => ?_) ?_
    rotate_left
    · obtain ⟨c0, c1, c2, c3, c4, c5, c6⟩ := HC2.out w' hf.only; obtain ⟨d0, d1, d2, d3, d4, d5, d6⟩ := HCl.out w' hf.only; obtain ⟨e0, e1, e2, e3, e4, e5, e6⟩ := HCr.out w' hf.only; go_simp
      try rfl
    try simp only [Act.put, List.setIfInBounds_toArray, List.set_cons_zero, List.set_cons_succ])
  refine lex_call (f := 35) (args := ?_) rfl rfl (fun w' hf => ?_) (fun w' hf => ?_) ?_
  rotate_left
  · obtain ⟨c0, c1, c2, c3, c4, c5, c6⟩ := HC2.out w' hf.only; obtain ⟨d0, d1, d2, d3, d4, d5, d6⟩ := HCl.out w' hf.only; obtain ⟨e0, e1, e2, e3, e4, e5, e6⟩ := HCr.out w' hf.only; go_simp
    try rfl
  · obtain ⟨c0, c1, c2, c3, c4, c5, c6⟩ := HC2.out w' hf.only; obtain ⟨d0, d1, d2, d3, d4, d5, d6⟩ := HCl.out w' hf.only; obtain ⟨e0, e1, e2, e3, e4, e5, e6⟩ := HCr.out w' hf.only; exact HL.out w'
  try simp only [Act.put, List.setIfInBounds_toArray, List.set_cons_zero, List.set_cons_succ]
  repeat (
    refine lex_val (v := ?_) rfl rfl (fun w' hf => ?_) ?_
    rotate_left
    · obtain ⟨c0, c1, c2, c3, c4, c5, c6⟩ := HC2.out w' hf.only; obtain ⟨d0, d1, d2, d3, d4, d5, d6⟩ := HCl.out w' hf.only; obtain ⟨e0, e1, e2, e3, e4, e5, e6⟩ := HCr.out w' hf.only; go_simp
      try rfl
    try simp only [Act.put, List.setIfInBounds_toArray, List.set_cons_zero, List.set_cons_succ])
  refine lex_call (f := 36) (args := ?_) rfl rfl (fun w' hf => ?_) (fun w' hf => ?_) ?_
  rotate_left
  · obtain ⟨c0, c1, c2, c3, c4, c5, c6⟩ := HC2.out w' hf.only; obtain ⟨d0, d1, d2, d3, d4, d5, d6⟩ := HCl.out w' hf.only; obtain ⟨e0, e1, e2, e3, e4, e5, e6⟩ := HCr.out w' hf.only; go_simp
    try rfl
  · obtain ⟨c0, c1, c2, c3, c4, c5, c6⟩ := HC2.out w' hf.only; obtain ⟨d0, d1, d2, d3, d4, d5, d6⟩ := HCl.out w' hf.only; obtain ⟨e0, e1, e2, e3, e4, e5, e6⟩ := HCr.out w' hf.only; exact HRl.out w'
  try simp only [Act.put, List.setIfInBounds_toArray, List.set_cons_zero, List.set_cons_succ]
  repeat (
    refine lex_val (v := ?_) rfl rfl (fun w' hf => ?_) ?_
    rotate_left
    · obtain ⟨c0, c1, c2, c3, c4, c5, c6⟩ := HC2.out w' hf.only; obtain ⟨d0, d1, d2, d3, d4, d5, d6⟩ := HCl.out w' hf.only; obtain ⟨e0, e1, e2, e3, e4, e5, e6⟩ := HCr.out w' hf.only; go_simp
      try rfl
    try simp only [Act.put, List.setIfInBounds_toArray, List.set_cons_zero, List.set_cons_succ])
  refine lex_call (f := 36) (args := ?_) rfl rfl (fun w' hf => ?_) (fun w' hf => ?_) ?_
  rotate_left
  · obtain ⟨c0, c1, c2, c3, c4, c5, c6⟩ := HC2.out w' hf.only; obtain ⟨d0, d1, d2, d3, d4, d5, d6⟩ := HCl.out w' hf.only; obtain ⟨e0, e1, e2, e3, e4, e5, e6⟩ := HCr.out w' hf.only; go_simp
    try rfl
  · obtain ⟨c0, c1, c2, c3, c4, c5, c6⟩ := HC2.out w' hf.only; obtain ⟨d0, d1, d2, d3, d4, d5, d6⟩ := HCl.out w' hf.only; obtain ⟨e0, e1, e2, e3, e4, e5, e6⟩ := HCr.out w' hf.only; exact HR.out w'
  try simp only [Act.put, List.setIfInBounds_toArray, List.set_cons_zero, List.set_cons_succ]
  repeat (
    refine lex_val (v := ?_) rfl rfl (fun w' hf => ?_) ?_
    rotate_left
    · obtain ⟨c0, c1, c2, c3, c4, c5, c6⟩ := HC2.out w' hf.only; obtain ⟨d0, d1, d2, d3, d4, d5, d6⟩ := HCl.out w' hf.only; obtain ⟨e0, e1, e2, e3, e4, e5, e6⟩ := HCr.out w' hf.only; go_simp
      try rfl
    try simp only [Act.put, List.setIfInBounds_toArray, List.set_cons_zero, List.set_cons_succ])
  refine lex_call (f := 35) (args := ?_) rfl rfl (fun w' hf => ?_) (fun w' hf => ?_) ?_
  rotate_left
  · obtain ⟨c0, c1, c2, c3, c4, c5, c6⟩ := HC2.out w' hf.only; obtain ⟨d0, d1, d2, d3, d4, d5, d6⟩ := HCl.out w' hf.only; obtain ⟨e0, e1, e2, e3, e4, e5, e6⟩ := HCr.out w' hf.only; go_simp
    try rfl
  · obtain ⟨c0, c1, c2, c3, c4, c5, c6⟩ := HC2.out w' hf.only; obtain ⟨d0, d1, d2, d3, d4, d5, d6⟩ := HCl.out w' hf.only; obtain ⟨e0, e1, e2, e3, e4, e5, e6⟩ := HCr.out w' hf.only; exact HLr.out w'
  try simp only [Act.put, List.setIfInBounds_toArray, List.set_cons_zero, List.set_cons_succ]
  repeat (
    refine lex_val (v := ?_) rfl rfl (fun w' hf => ?_) ?_
    rotate_left
    · obtain ⟨c0, c1, c2, c3, c4, c5, c6⟩ := HC2.out w' hf.only; obtain ⟨d0, d1, d2, d3, d4, d5, d6⟩ := HCl.out w' hf.only; obtain ⟨e0, e1, e2, e3, e4, e5, e6⟩ := HCr.out w' hf.only; go_simp
      try rfl
    try simp only [Act.put, List.setIfInBounds_toArray, List.set_cons_zero, List.set_cons_succ])
  refine lex_nil fun W3 he => ?_
  have HX5 := Lib.hid (HX4.out.next he.only.below0)
  have HB5 := Lib.hid (HB4.out.trans (he.only.below0.mono HB4.out.size))
  clear he HC2 HCl HCr hna hni hga hgi HL HLr HR HRl HBl HBr HX4 HB4 HX3 HB3
  have HD := Lib.hid (fun W t t2 => designate_any ⟨a, b, c, d, l, r, s⟩ p false zeroT W t t2)
  have HLy := Lib.hid (fun (y : Iso) W => isoLeft_any y q W)
  have HLc := Lib.hid (fun (y : Iso) => leftI_cs y q)
  rw [des_zero] at HD
  obtain ⟨c0, c1, c2, c3, c4, c5, c6⟩ := seven HX5.out
  go_wp2_with fail
  rcases ho : inB 0 p with _ | _
  · rw [ho, if_neg (by simp)] at HD
    have hp : decide (0 ≤ p) = false ∨ (decide (0 ≤ p) = true ∧ decide (p ≤ 3) = false) := by
      unfold inB at ho
      rcases h1 : decide (0 ≤ p) with _ | _
      · exact .inl rfl
      · rw [h1, Bool.true_and] at ho; exact .inr ⟨rfl, ho⟩
    clear ho
    have HDp : Hid (∀ W, Faces W → Blanks W → Calls Tryd.prog 37 #[.agg #[.int .i64 a, .int .i64 b, .int .i64 c, .int .i64 d, .int .i64 l, .int .i64 r, .int .i64 s], .int .i64 p, .bool false, .string ⟨#[48]⟩] W fun e w' => e = .returned (.tuple #[.agg #[.int .i64 a, .int .i64 b, .int .i64 c, .int .i64 d, .int .i64 l, .int .i64 r, .int .i64 s], .bool false]) ∧ Below W.heap.size W w') := Lib.hid (fun W t s => HD.out W t s)
    clear HD
    refine (HDp.out _ (HT.out.below HT.out.1 HB5.out) (HS.out.next HB5.out)).mono ?_
    rintro e w4 ⟨rfl, hb4⟩
    have HB6 := Lib.hid (HB5.out.trans (hb4.mono HB5.out.size))
    have HX6 := Lib.hid (HX5.out.next hb4)
    clear hb4 c0 c1 c2 c3 c4 c5 c6 HDp
    go_wp2_with fail
    have HB7 := Lib.hid (HB6.out.alloc HB6.out.size (.cells #[.int .i64 a, .int .i64 b, .int .i64 c, .int .i64 d, .int .i64 l, .int .i64 r, .int .i64 s] 37))
    have HY := Lib.hid (Blk.new w4 37 #[.int .i64 a, .int .i64 b, .int .i64 c, .int .i64 d, .int .i64 l, .int .i64 r, .int .i64 s])
    have HX7 := Lib.hid (Blk.alloc HX6.out (.cells #[.int .i64 a, .int .i64 b, .int .i64 c, .int .i64 d, .int .i64 l, .int .i64 r, .int .i64 s] 37))
    generalize w4.heap.size = h at *
    generalize w4.alloc (.cells #[.int .i64 a, .int .i64 b, .int .i64 c, .int .i64 d, .int .i64 l, .int .i64 r, .int .i64 s] 37) = W4 at *
    rcases hp with g1 | ⟨g1, g2⟩
    · refine wp_region_mix_lit (by kernel_rfl) [] (by kernel_rfl) (by kernel_rfl) (by kernel_rfl) (by rfl) (by simp [apartK] <;> omega) (by simp [startK]) (by simp [stabK]) (⟨fun _ => undef, by simp [okK]⟩) (fun β hβ => ?_)
      repeat (
        refine lex_val (v := ?_) rfl rfl (fun w' hf => ?_) ?_
        rotate_left
        · obtain ⟨c0, c1, c2, c3, c4, c5, c6⟩ := seven (HX7.out.next hf.only.below0); obtain ⟨d0, d1, d2, d3, d4, d5, d6⟩ := seven (HY.out.next hf.only.below0); go_simp
          try rfl
        try simp only [Act.put, List.setIfInBounds_toArray, List.set_cons_zero, List.set_cons_succ])
      repeat (
        refine lex_skip rfl rfl ?_
        try simp only [Act.put, List.setIfInBounds_toArray, List.set_cons_zero, List.set_cons_succ])
      repeat (
        refine lex_val (v := ?_) rfl rfl (fun w' hf => ?_) ?_
        rotate_left
        · obtain ⟨c0, c1, c2, c3, c4, c5, c6⟩ := seven (HX7.out.next hf.only.below0); obtain ⟨d0, d1, d2, d3, d4, d5, d6⟩ := seven (HY.out.next hf.only.below0); go_simp
          try rfl
        try simp only [Act.put, List.setIfInBounds_toArray, List.set_cons_zero, List.set_cons_succ])
      repeat (
        refine lex_skip rfl rfl ?_
        try simp only [Act.put, List.setIfInBounds_toArray, List.set_cons_zero, List.set_cons_succ])
      repeat (
        refine lex_val (v := ?_) rfl rfl (fun w' hf => ?_) ?_
        rotate_left
        · obtain ⟨c0, c1, c2, c3, c4, c5, c6⟩ := seven (HX7.out.next hf.only.below0); obtain ⟨d0, d1, d2, d3, d4, d5, d6⟩ := seven (HY.out.next hf.only.below0); go_simp
          try rfl
        try simp only [Act.put, List.setIfInBounds_toArray, List.set_cons_zero, List.set_cons_succ])
      refine lex_nil fun W5 he => ?_
      have HB8 := Lib.hid (HB7.out.trans (he.only.below0.mono HB7.out.size))
      clear he
      go_wp2_with fail
      go_ret
      exact ⟨rfl, HB8.out⟩
    · refine wp_region_mix_lit (by kernel_rfl) [] (by kernel_rfl) (by kernel_rfl) (by kernel_rfl) (by rfl) (by simp [apartK] <;> omega) (by simp [startK]) (by simp [stabK]) (⟨fun _ => undef, by simp [okK]⟩) (fun β hβ => ?_)
      repeat (
        refine lex_val (v := ?_) rfl rfl (fun w' hf => ?_) ?_
        rotate_left
        · obtain ⟨c0, c1, c2, c3, c4, c5, c6⟩ := seven (HX7.out.next hf.only.below0); obtain ⟨d0, d1, d2, d3, d4, d5, d6⟩ := seven (HY.out.next hf.only.below0); go_simp
          try rfl
        try simp only [Act.put, List.setIfInBounds_toArray, List.set_cons_zero, List.set_cons_succ])
      repeat (
        refine lex_skip rfl rfl ?_
        try simp only [Act.put, List.setIfInBounds_toArray, List.set_cons_zero, List.set_cons_succ])
      repeat (
        refine lex_val (v := ?_) rfl rfl (fun w' hf => ?_) ?_
        rotate_left
        · obtain ⟨c0, c1, c2, c3, c4, c5, c6⟩ := seven (HX7.out.next hf.only.below0); obtain ⟨d0, d1, d2, d3, d4, d5, d6⟩ := seven (HY.out.next hf.only.below0); go_simp
          try rfl
        try simp only [Act.put, List.setIfInBounds_toArray, List.set_cons_zero, List.set_cons_succ])
      refine lex_nil fun W5 he => ?_
      have HB8 := Lib.hid (HB7.out.trans (he.only.below0.mono HB7.out.size))
      clear he
      go_wp2_with fail
      go_ret
      exact ⟨rfl, HB8.out⟩
  · have hp : p = 0 ∨ p = 1 ∨ p = 2 ∨ p = 3 := in_cases ho
    rw [ho, if_pos rfl] at HD
    clear ho
    rcases hp with rfl | rfl | rfl | rfl
    · have HDp : Hid (∀ W, Faces W → Blanks W → Calls Tryd.prog 37 #[.agg #[.int .i64 a, .int .i64 b, .int .i64 c, .int .i64 d, .int .i64 l, .int .i64 r, .int .i64 s], .int .i64 0, .bool false, .string ⟨#[48]⟩] W fun e w' => e = .returned (.tuple #[.agg #[.int .i64 2, .int .i64 b, .int .i64 c, .int .i64 d, .int .i64 l, .int .i64 r, .int .i64 s], .bool true]) ∧ Below W.heap.size W w') := Lib.hid (fun W t s => HD.out W t s)
      clear HD
      refine (HDp.out _ (HT.out.below HT.out.1 HB5.out) (HS.out.next HB5.out)).mono ?_
      rintro e w4 ⟨rfl, hb4⟩
      have HB6 := Lib.hid (HB5.out.trans (hb4.mono HB5.out.size))
      have HX6 := Lib.hid (HX5.out.next hb4)
      clear hb4 c0 c1 c2 c3 c4 c5 c6 HDp
      go_wp2_with fail
      have HB7 := Lib.hid (HB6.out.alloc HB6.out.size (.cells #[.int .i64 2, .int .i64 b, .int .i64 c, .int .i64 d, .int .i64 l, .int .i64 r, .int .i64 s] 37))
      have HY := Lib.hid (Blk.new w4 37 #[.int .i64 2, .int .i64 b, .int .i64 c, .int .i64 d, .int .i64 l, .int .i64 r, .int .i64 s])
      have HX7 := Lib.hid (Blk.alloc HX6.out (.cells #[.int .i64 2, .int .i64 b, .int .i64 c, .int .i64 d, .int .i64 l, .int .i64 r, .int .i64 s] 37))
      generalize w4.heap.size = h at *
      generalize w4.alloc (.cells #[.int .i64 2, .int .i64 b, .int .i64 c, .int .i64 d, .int .i64 l, .int .i64 r, .int .i64 s] 37) = W4 at *
      obtain ⟨l'', hl1, _⟩ := HLc.out ⟨2, b, c, d, l, r, s⟩
      have HLq : Hid (∀ W, Calls Tryd.prog 35 #[.agg #[.int .i64 2, .int .i64 b, .int .i64 c, .int .i64 d, .int .i64 l, .int .i64 r, .int .i64 s], .int .i64 q] W fun e w' => e = .returned (.agg #[.int .i64 2, .int .i64 b, .int .i64 c, .int .i64 d, .int .i64 l'', .int .i64 r, .int .i64 s]) ∧ Below W.heap.size W w') := Lib.hid (fun W => by
        have := HLy.out ⟨2, b, c, d, l, r, s⟩ W
        rw [hl1] at this
        exact this)
      clear hl1 HLc HLy
      have hfd : ∀ W, (Instr.field 37 (.agg #[.int .i64 2, .int .i64 b, .int .i64 c, .int .i64 d, .int .i64 l'', .int .i64 r, .int .i64 s]) 0).run Tryd.prog W = .ok (.agg #[.int .i64 2, .int .i64 b, .int .i64 c, .int .i64 d]) W := fun W => by kernel_rfl
      have hea : ∀ W, _ := fun W => eql_arr W 2 b c d
      have hga : ∀ W p q xs ys, _ := fun W p q xs ys => guard_arr W .eql p q xs ys
      refine wp_region_mix_lit (by kernel_rfl) [(14, .call (.agg #[.int .i64 2, .int .i64 b, .int .i64 c, .int .i64 d, .int .i64 l'', .int .i64 r, .int .i64 s]))] (by kernel_rfl) (by kernel_rfl) (by kernel_rfl) (by rfl) (by simp [apartK] <;> omega) (by simp [startK]) (by simp [stabK]) (⟨fun _ => undef, by simp [okK]⟩) (fun β hβ => ?_)
      repeat (
        refine lex_val (v := ?_) rfl rfl (fun w' hf => ?_) ?_
        rotate_left
        · obtain ⟨c0, c1, c2, c3, c4, c5, c6⟩ := seven (HX7.out.next hf.only.below0); obtain ⟨d0, d1, d2, d3, d4, d5, d6⟩ := seven (HY.out.next hf.only.below0); go_simp
          try rfl
        try simp only [Act.put, List.setIfInBounds_toArray, List.set_cons_zero, List.set_cons_succ])
      refine lex_call (f := 35) (args := ?_) rfl rfl (fun w' hf => ?_) (fun w' hf => ?_) ?_
      rotate_left
      · obtain ⟨c0, c1, c2, c3, c4, c5, c6⟩ := seven (HX7.out.next hf.only.below0); obtain ⟨d0, d1, d2, d3, d4, d5, d6⟩ := seven (HY.out.next hf.only.below0); go_simp
        try rfl
      · obtain ⟨c0, c1, c2, c3, c4, c5, c6⟩ := seven (HX7.out.next hf.only.below0); obtain ⟨d0, d1, d2, d3, d4, d5, d6⟩ := seven (HY.out.next hf.only.below0); exact HLq.out w'
      try simp only [Act.put, List.setIfInBounds_toArray, List.set_cons_zero, List.set_cons_succ]
      repeat (
        refine lex_val (v := ?_) rfl rfl (fun w' hf => ?_) ?_
        rotate_left
        · obtain ⟨c0, c1, c2, c3, c4, c5, c6⟩ := seven (HX7.out.next hf.only.below0); obtain ⟨d0, d1, d2, d3, d4, d5, d6⟩ := seven (HY.out.next hf.only.below0); go_simp
          try rfl
        try simp only [Act.put, List.setIfInBounds_toArray, List.set_cons_zero, List.set_cons_succ])
      refine lex_nil fun W5 he => ?_
      have HB8 := Lib.hid (HB7.out.trans (he.only.below0.mono HB7.out.size))
      clear he
      go_wp2_with fail
      go_ret
      exact ⟨rfl, HB8.out⟩
    · have HDp : Hid (∀ W, Faces W → Blanks W → Calls Tryd.prog 37 #[.agg #[.int .i64 a, .int .i64 b, .int .i64 c, .int .i64 d, .int .i64 l, .int .i64 r, .int .i64 s], .int .i64 1, .bool false, .string ⟨#[48]⟩] W fun e w' => e = .returned (.tuple #[.agg #[.int .i64 a, .int .i64 2, .int .i64 c, .int .i64 d, .int .i64 l, .int .i64 r, .int .i64 s], .bool true]) ∧ Below W.heap.size W w') := Lib.hid (fun W t s => HD.out W t s)
      clear HD
      refine (HDp.out _ (HT.out.below HT.out.1 HB5.out) (HS.out.next HB5.out)).mono ?_
      rintro e w4 ⟨rfl, hb4⟩
      have HB6 := Lib.hid (HB5.out.trans (hb4.mono HB5.out.size))
      have HX6 := Lib.hid (HX5.out.next hb4)
      clear hb4 c0 c1 c2 c3 c4 c5 c6 HDp
      go_wp2_with fail
      have HB7 := Lib.hid (HB6.out.alloc HB6.out.size (.cells #[.int .i64 a, .int .i64 2, .int .i64 c, .int .i64 d, .int .i64 l, .int .i64 r, .int .i64 s] 37))
      have HY := Lib.hid (Blk.new w4 37 #[.int .i64 a, .int .i64 2, .int .i64 c, .int .i64 d, .int .i64 l, .int .i64 r, .int .i64 s])
      have HX7 := Lib.hid (Blk.alloc HX6.out (.cells #[.int .i64 a, .int .i64 2, .int .i64 c, .int .i64 d, .int .i64 l, .int .i64 r, .int .i64 s] 37))
      generalize w4.heap.size = h at *
      generalize w4.alloc (.cells #[.int .i64 a, .int .i64 2, .int .i64 c, .int .i64 d, .int .i64 l, .int .i64 r, .int .i64 s] 37) = W4 at *
      obtain ⟨l'', hl1, _⟩ := HLc.out ⟨a, 2, c, d, l, r, s⟩
      have HLq : Hid (∀ W, Calls Tryd.prog 35 #[.agg #[.int .i64 a, .int .i64 2, .int .i64 c, .int .i64 d, .int .i64 l, .int .i64 r, .int .i64 s], .int .i64 q] W fun e w' => e = .returned (.agg #[.int .i64 a, .int .i64 2, .int .i64 c, .int .i64 d, .int .i64 l'', .int .i64 r, .int .i64 s]) ∧ Below W.heap.size W w') := Lib.hid (fun W => by
        have := HLy.out ⟨a, 2, c, d, l, r, s⟩ W
        rw [hl1] at this
        exact this)
      clear hl1 HLc HLy
      have hfd : ∀ W, (Instr.field 37 (.agg #[.int .i64 a, .int .i64 2, .int .i64 c, .int .i64 d, .int .i64 l'', .int .i64 r, .int .i64 s]) 0).run Tryd.prog W = .ok (.agg #[.int .i64 a, .int .i64 2, .int .i64 c, .int .i64 d]) W := fun W => by kernel_rfl
      have hea : ∀ W, _ := fun W => eql_arr W a 2 c d
      have hga : ∀ W p q xs ys, _ := fun W p q xs ys => guard_arr W .eql p q xs ys
      refine wp_region_mix_lit (by kernel_rfl) [(14, .call (.agg #[.int .i64 a, .int .i64 2, .int .i64 c, .int .i64 d, .int .i64 l'', .int .i64 r, .int .i64 s]))] (by kernel_rfl) (by kernel_rfl) (by kernel_rfl) (by rfl) (by simp [apartK] <;> omega) (by simp [startK]) (by simp [stabK]) (⟨fun _ => undef, by simp [okK]⟩) (fun β hβ => ?_)
      repeat (
        refine lex_val (v := ?_) rfl rfl (fun w' hf => ?_) ?_
        rotate_left
        · obtain ⟨c0, c1, c2, c3, c4, c5, c6⟩ := seven (HX7.out.next hf.only.below0); obtain ⟨d0, d1, d2, d3, d4, d5, d6⟩ := seven (HY.out.next hf.only.below0); go_simp
          try rfl
        try simp only [Act.put, List.setIfInBounds_toArray, List.set_cons_zero, List.set_cons_succ])
      refine lex_call (f := 35) (args := ?_) rfl rfl (fun w' hf => ?_) (fun w' hf => ?_) ?_
      rotate_left
      · obtain ⟨c0, c1, c2, c3, c4, c5, c6⟩ := seven (HX7.out.next hf.only.below0); obtain ⟨d0, d1, d2, d3, d4, d5, d6⟩ := seven (HY.out.next hf.only.below0); go_simp
        try rfl
      · obtain ⟨c0, c1, c2, c3, c4, c5, c6⟩ := seven (HX7.out.next hf.only.below0); obtain ⟨d0, d1, d2, d3, d4, d5, d6⟩ := seven (HY.out.next hf.only.below0); exact HLq.out w'
      try simp only [Act.put, List.setIfInBounds_toArray, List.set_cons_zero, List.set_cons_succ]
      repeat (
        refine lex_val (v := ?_) rfl rfl (fun w' hf => ?_) ?_
        rotate_left
        · obtain ⟨c0, c1, c2, c3, c4, c5, c6⟩ := seven (HX7.out.next hf.only.below0); obtain ⟨d0, d1, d2, d3, d4, d5, d6⟩ := seven (HY.out.next hf.only.below0); go_simp
          try rfl
        try simp only [Act.put, List.setIfInBounds_toArray, List.set_cons_zero, List.set_cons_succ])
      refine lex_nil fun W5 he => ?_
      have HB8 := Lib.hid (HB7.out.trans (he.only.below0.mono HB7.out.size))
      clear he
      go_wp2_with fail
      go_ret
      exact ⟨rfl, HB8.out⟩
    · have HDp : Hid (∀ W, Faces W → Blanks W → Calls Tryd.prog 37 #[.agg #[.int .i64 a, .int .i64 b, .int .i64 c, .int .i64 d, .int .i64 l, .int .i64 r, .int .i64 s], .int .i64 2, .bool false, .string ⟨#[48]⟩] W fun e w' => e = .returned (.tuple #[.agg #[.int .i64 a, .int .i64 b, .int .i64 2, .int .i64 d, .int .i64 l, .int .i64 r, .int .i64 s], .bool true]) ∧ Below W.heap.size W w') := Lib.hid (fun W t s => HD.out W t s)
      clear HD
      refine (HDp.out _ (HT.out.below HT.out.1 HB5.out) (HS.out.next HB5.out)).mono ?_
      rintro e w4 ⟨rfl, hb4⟩
      have HB6 := Lib.hid (HB5.out.trans (hb4.mono HB5.out.size))
      have HX6 := Lib.hid (HX5.out.next hb4)
      clear hb4 c0 c1 c2 c3 c4 c5 c6 HDp
      go_wp2_with fail
      have HB7 := Lib.hid (HB6.out.alloc HB6.out.size (.cells #[.int .i64 a, .int .i64 b, .int .i64 2, .int .i64 d, .int .i64 l, .int .i64 r, .int .i64 s] 37))
      have HY := Lib.hid (Blk.new w4 37 #[.int .i64 a, .int .i64 b, .int .i64 2, .int .i64 d, .int .i64 l, .int .i64 r, .int .i64 s])
      have HX7 := Lib.hid (Blk.alloc HX6.out (.cells #[.int .i64 a, .int .i64 b, .int .i64 2, .int .i64 d, .int .i64 l, .int .i64 r, .int .i64 s] 37))
      generalize w4.heap.size = h at *
      generalize w4.alloc (.cells #[.int .i64 a, .int .i64 b, .int .i64 2, .int .i64 d, .int .i64 l, .int .i64 r, .int .i64 s] 37) = W4 at *
      obtain ⟨l'', hl1, _⟩ := HLc.out ⟨a, b, 2, d, l, r, s⟩
      have HLq : Hid (∀ W, Calls Tryd.prog 35 #[.agg #[.int .i64 a, .int .i64 b, .int .i64 2, .int .i64 d, .int .i64 l, .int .i64 r, .int .i64 s], .int .i64 q] W fun e w' => e = .returned (.agg #[.int .i64 a, .int .i64 b, .int .i64 2, .int .i64 d, .int .i64 l'', .int .i64 r, .int .i64 s]) ∧ Below W.heap.size W w') := Lib.hid (fun W => by
        have := HLy.out ⟨a, b, 2, d, l, r, s⟩ W
        rw [hl1] at this
        exact this)
      clear hl1 HLc HLy
      have hfd : ∀ W, (Instr.field 37 (.agg #[.int .i64 a, .int .i64 b, .int .i64 2, .int .i64 d, .int .i64 l'', .int .i64 r, .int .i64 s]) 0).run Tryd.prog W = .ok (.agg #[.int .i64 a, .int .i64 b, .int .i64 2, .int .i64 d]) W := fun W => by kernel_rfl
      have hea : ∀ W, _ := fun W => eql_arr W a b 2 d
      have hga : ∀ W p q xs ys, _ := fun W p q xs ys => guard_arr W .eql p q xs ys
      refine wp_region_mix_lit (by kernel_rfl) [(14, .call (.agg #[.int .i64 a, .int .i64 b, .int .i64 2, .int .i64 d, .int .i64 l'', .int .i64 r, .int .i64 s]))] (by kernel_rfl) (by kernel_rfl) (by kernel_rfl) (by rfl) (by simp [apartK] <;> omega) (by simp [startK]) (by simp [stabK]) (⟨fun _ => undef, by simp [okK]⟩) (fun β hβ => ?_)
      repeat (
        refine lex_val (v := ?_) rfl rfl (fun w' hf => ?_) ?_
        rotate_left
        · obtain ⟨c0, c1, c2, c3, c4, c5, c6⟩ := seven (HX7.out.next hf.only.below0); obtain ⟨d0, d1, d2, d3, d4, d5, d6⟩ := seven (HY.out.next hf.only.below0); go_simp
          try rfl
        try simp only [Act.put, List.setIfInBounds_toArray, List.set_cons_zero, List.set_cons_succ])
      refine lex_call (f := 35) (args := ?_) rfl rfl (fun w' hf => ?_) (fun w' hf => ?_) ?_
      rotate_left
      · obtain ⟨c0, c1, c2, c3, c4, c5, c6⟩ := seven (HX7.out.next hf.only.below0); obtain ⟨d0, d1, d2, d3, d4, d5, d6⟩ := seven (HY.out.next hf.only.below0); go_simp
        try rfl
      · obtain ⟨c0, c1, c2, c3, c4, c5, c6⟩ := seven (HX7.out.next hf.only.below0); obtain ⟨d0, d1, d2, d3, d4, d5, d6⟩ := seven (HY.out.next hf.only.below0); exact HLq.out w'
      try simp only [Act.put, List.setIfInBounds_toArray, List.set_cons_zero, List.set_cons_succ]
      repeat (
        refine lex_val (v := ?_) rfl rfl (fun w' hf => ?_) ?_
        rotate_left
        · obtain ⟨c0, c1, c2, c3, c4, c5, c6⟩ := seven (HX7.out.next hf.only.below0); obtain ⟨d0, d1, d2, d3, d4, d5, d6⟩ := seven (HY.out.next hf.only.below0); go_simp
          try rfl
        try simp only [Act.put, List.setIfInBounds_toArray, List.set_cons_zero, List.set_cons_succ])
      refine lex_nil fun W5 he => ?_
      have HB8 := Lib.hid (HB7.out.trans (he.only.below0.mono HB7.out.size))
      clear he
      go_wp2_with fail
      go_ret
      exact ⟨rfl, HB8.out⟩
    · have HDp : Hid (∀ W, Faces W → Blanks W → Calls Tryd.prog 37 #[.agg #[.int .i64 a, .int .i64 b, .int .i64 c, .int .i64 d, .int .i64 l, .int .i64 r, .int .i64 s], .int .i64 3, .bool false, .string ⟨#[48]⟩] W fun e w' => e = .returned (.tuple #[.agg #[.int .i64 a, .int .i64 b, .int .i64 c, .int .i64 2, .int .i64 l, .int .i64 r, .int .i64 s], .bool true]) ∧ Below W.heap.size W w') := Lib.hid (fun W t s => HD.out W t s)
      clear HD
      refine (HDp.out _ (HT.out.below HT.out.1 HB5.out) (HS.out.next HB5.out)).mono ?_
      rintro e w4 ⟨rfl, hb4⟩
      have HB6 := Lib.hid (HB5.out.trans (hb4.mono HB5.out.size))
      have HX6 := Lib.hid (HX5.out.next hb4)
      clear hb4 c0 c1 c2 c3 c4 c5 c6 HDp
      go_wp2_with fail
      have HB7 := Lib.hid (HB6.out.alloc HB6.out.size (.cells #[.int .i64 a, .int .i64 b, .int .i64 c, .int .i64 2, .int .i64 l, .int .i64 r, .int .i64 s] 37))
      have HY := Lib.hid (Blk.new w4 37 #[.int .i64 a, .int .i64 b, .int .i64 c, .int .i64 2, .int .i64 l, .int .i64 r, .int .i64 s])
      have HX7 := Lib.hid (Blk.alloc HX6.out (.cells #[.int .i64 a, .int .i64 b, .int .i64 c, .int .i64 2, .int .i64 l, .int .i64 r, .int .i64 s] 37))
      generalize w4.heap.size = h at *
      generalize w4.alloc (.cells #[.int .i64 a, .int .i64 b, .int .i64 c, .int .i64 2, .int .i64 l, .int .i64 r, .int .i64 s] 37) = W4 at *
      obtain ⟨l'', hl1, _⟩ := HLc.out ⟨a, b, c, 2, l, r, s⟩
      have HLq : Hid (∀ W, Calls Tryd.prog 35 #[.agg #[.int .i64 a, .int .i64 b, .int .i64 c, .int .i64 2, .int .i64 l, .int .i64 r, .int .i64 s], .int .i64 q] W fun e w' => e = .returned (.agg #[.int .i64 a, .int .i64 b, .int .i64 c, .int .i64 2, .int .i64 l'', .int .i64 r, .int .i64 s]) ∧ Below W.heap.size W w') := Lib.hid (fun W => by
        have := HLy.out ⟨a, b, c, 2, l, r, s⟩ W
        rw [hl1] at this
        exact this)
      clear hl1 HLc HLy
      have hfd : ∀ W, (Instr.field 37 (.agg #[.int .i64 a, .int .i64 b, .int .i64 c, .int .i64 2, .int .i64 l'', .int .i64 r, .int .i64 s]) 0).run Tryd.prog W = .ok (.agg #[.int .i64 a, .int .i64 b, .int .i64 c, .int .i64 2]) W := fun W => by kernel_rfl
      have hea : ∀ W, _ := fun W => eql_arr W a b c 2
      have hga : ∀ W p q xs ys, _ := fun W p q xs ys => guard_arr W .eql p q xs ys
      refine wp_region_mix_lit (by kernel_rfl) [(14, .call (.agg #[.int .i64 a, .int .i64 b, .int .i64 c, .int .i64 2, .int .i64 l'', .int .i64 r, .int .i64 s]))] (by kernel_rfl) (by kernel_rfl) (by kernel_rfl) (by rfl) (by simp [apartK] <;> omega) (by simp [startK]) (by simp [stabK]) (⟨fun _ => undef, by simp [okK]⟩) (fun β hβ => ?_)
      repeat (
        refine lex_val (v := ?_) rfl rfl (fun w' hf => ?_) ?_
        rotate_left
        · obtain ⟨c0, c1, c2, c3, c4, c5, c6⟩ := seven (HX7.out.next hf.only.below0); obtain ⟨d0, d1, d2, d3, d4, d5, d6⟩ := seven (HY.out.next hf.only.below0); go_simp
          try rfl
        try simp only [Act.put, List.setIfInBounds_toArray, List.set_cons_zero, List.set_cons_succ])
      refine lex_call (f := 35) (args := ?_) rfl rfl (fun w' hf => ?_) (fun w' hf => ?_) ?_
      rotate_left
      · obtain ⟨c0, c1, c2, c3, c4, c5, c6⟩ := seven (HX7.out.next hf.only.below0); obtain ⟨d0, d1, d2, d3, d4, d5, d6⟩ := seven (HY.out.next hf.only.below0); go_simp
        try rfl
      · obtain ⟨c0, c1, c2, c3, c4, c5, c6⟩ := seven (HX7.out.next hf.only.below0); obtain ⟨d0, d1, d2, d3, d4, d5, d6⟩ := seven (HY.out.next hf.only.below0); exact HLq.out w'
      try simp only [Act.put, List.setIfInBounds_toArray, List.set_cons_zero, List.set_cons_succ]
      repeat (
        refine lex_val (v := ?_) rfl rfl (fun w' hf => ?_) ?_
        rotate_left
        · obtain ⟨c0, c1, c2, c3, c4, c5, c6⟩ := seven (HX7.out.next hf.only.below0); obtain ⟨d0, d1, d2, d3, d4, d5, d6⟩ := seven (HY.out.next hf.only.below0); go_simp
          try rfl
        try simp only [Act.put, List.setIfInBounds_toArray, List.set_cons_zero, List.set_cons_succ])
      refine lex_nil fun W5 he => ?_
      have HB8 := Lib.hid (HB7.out.trans (he.only.below0.mono HB7.out.size))
      clear he
      go_wp2_with fail
      go_ret
      exact ⟨rfl, HB8.out⟩

set_option maxRecDepth 100000 in
/-- What the walk gives, for every argument and every world that holds the table. -/
theorem contract (H : Type) (enc : TypeId × Value → H) (W : World) (base : Nat) (args : Array Value) (ds gs : List (DataW H)) (before : List MemPlace)
    (hval : ∀ (j : Nat) t v, Tryd.f10.params[j]? = some t → args[j]? = some v → Value.okWide Tryd.prog W .any base t v)
    (hW : DataW.Whole enc Tryd.prog Tryd.f10.params.toList Rows.isoApartSpec.vars false W args.toList ds gs before) (hL : laidMetH Tryd.prog Rows.isoApartRow.laid W)
    (hreach : (DataW.weightsEach Tryd.prog (Tryd.f10.params.toList ++ []) (ds ++ gs)).all (· ≤ reachBytes) = true) :
    Calls Tryd.prog 10 args W fun e W' => ∃ v, e = .returned v ∧ Rows.isoApartSpec.post enc Tryd.prog Tryd.f10 false true false false W args v W' := by
  have hW' := hW
  have ht := facesB hL
  have hs := blanksB hL
  have hlts : ∀ x ∈ before, x.block < W.heap.size := fun x hx => hW'.lt x hx
  obtain ⟨p, q, hA0, hV, rfl, hfz, hnd⟩ := hW
  have hA : DataW.TrodAll enc Tryd.prog W 0 (fun _ => true) true Tryd.f10.params.toList args.toList ds p := hA0
  rw [Tryd.params10] at hA hval hreach
  obtain ⟨v0, vs0, d0, ds0, pp0, qq0, hargs, rfl, rfl, h0, rr0⟩ := trodAll_cons hA
  obtain ⟨v1, vs1, d1, ds1, pp1, qq1, rfl, rfl, rfl, h1, rr1⟩ := trodAll_cons rr0
  obtain ⟨v2, vs2, d2, ds2, pp2, qq2, rfl, rfl, rfl, h2, rr2⟩ := trodAll_cons rr1
  obtain ⟨rfl, rfl, rfl⟩ := trodAll_nil rr2
  obtain rfl : args = #[v0, v1, v2] := by cases args; simp_all
  obtain ⟨rfl, rfl⟩ := trodVars_none hV
  obtain ⟨a0, b0, c0, e0, l0, r0, s0, rfl⟩ := iso_in (hval 0 35 v0 rfl rfl) h0
  obtain ⟨a1, rfl, rfl, rfl, w1⟩ := open_int Tryd.underlying3 (hval 1 3 v1 rfl rfl) h1
  obtain ⟨a2, rfl, rfl, rfl, w2⟩ := open_int Tryd.underlying3 (hval 2 3 v2 rfl rfl) h2
  clear hA0
  refine (walk a0 b0 c0 e0 l0 r0 s0 a1 a2 W ht hs).mono fun e W' ⟨he, hb⟩ => ?_
  subst he
  exact ⟨_, rfl, post_law laidOut (by kernel_rfl) (by kernel_rfl) rfl hW' rfl hb⟩

set_option maxRecDepth 100000 in
theorem laid_met (os : Os) : laidMet Tryd.prog Rows.isoApartRow.laid ((laidWorldB os).forCall (fun _ _ => 0) ⟨#[], #[Value.agg #[.int .i64 0, .int .i64 0, .int .i64 0, .int .i64 0, .int .i64 0, .int .i64 0, .int .i64 0], Value.int .i64 0, Value.int .i64 0], []⟩).memory :=
  laid_metB os _
set_option maxRecDepth 100000 in
theorem reads (os : Os) {H : Type} (enc : TypeId × Value → H) : ∃ places, DataW.whole enc Tryd.prog ((laidWorldB os).forCall (fun _ _ => 0) ⟨#[], #[Value.agg #[.int .i64 0, .int .i64 0, .int .i64 0, .int .i64 0, .int .i64 0, .int .i64 0, .int .i64 0], Value.int .i64 0, Value.int .i64 0], []⟩).memory Tryd.f10.params.toList Rows.isoApartSpec.vars false (#[Value.agg #[.int .i64 0, .int .i64 0, .int .i64 0, .int .i64 0, .int .i64 0, .int .i64 0, .int .i64 0], Value.int .i64 0, Value.int .i64 0] : Array Value).toList 8 = some ([.agg [.agg [.lit (.int .i64 0), .lit (.int .i64 0), .lit (.int .i64 0), .lit (.int .i64 0)], .lit (.int .i64 0), .lit (.int .i64 0), .lit (.int .i64 0)], .lit (.int .i64 0), .lit (.int .i64 0)], [], places) :=
  ⟨[], by kernel_rfl⟩

set_option maxRecDepth 100000 in
theorem lifted (os : Os) (started : os.Started) (H : Type) (enc : TypeId × Value → H) (F : Stop.Interp) :
    ReturnsInHanded {} Tryd.checked os 10 .any ((OpenSpec.ofChange Rows.isoApartSpec).preRow enc Tryd.prog Tryd.f10 Rows.isoApartRow.domain false Rows.isoApartRow.laid) (((OpenSpec.ofChange Rows.isoApartSpec).at F).post enc Tryd.prog Tryd.f10 false true false false) := by
  obtain ⟨places, hx⟩ := reads os enc
  refine returnsInHanded_of_row (C := Tryd.checked) (s := OpenSpec.ofChange Rows.isoApartSpec) own started (by kernel_rfl) Tryd.func10
    (witness_row_atRef (enc := enc) (C := Tryd.checked) false (laidWorldB os) #[Value.agg #[.int .i64 0, .int .i64 0, .int .i64 0, .int .i64 0, .int .i64 0, .int .i64 0, .int .i64 0], Value.int .i64 0, Value.int .i64 0] rfl (by kernel_rfl) (by kernel_rfl) (by kernel_rfl)
      (OpenSpec.preRow_of_cond 8 hx (by kernel_rfl) (fun k hk => by cases hk) (by kernel_rfl) (laid_met os))) ?_
  intro W base args ds gs before hval hW _ _ hreach hL _ _
  exact contract H enc W base args ds gs before hval hW hL hreach

theorem said : Rows.IsoApartSaid :=
  OpenClaim.holds_of_cond 10 Tryd.f10 rfl rfl rfl rfl rfl rfl rfl ⟨rfl, rfl, rfl, rfl, rfl⟩ rfl rfl rfl rfl rfl (by kernel_rfl) Tryd.func10 (by kernel_rfl)
    (of_decide_eq_true (by kernel_rfl)) (by unfold Func.isWrapper; first | (rw [if_pos (by decide +kernel)]; kernel_rfl) | (rw [if_neg (by decide +kernel)]; exact ⟨rfl, rfl⟩))
    (fun os started H enc _ F => by rw [OpenClaim.pre_eq_preRow]; exact lifted os started H enc F)

theorem plain (f : FuncId) (fn : Func) (hf : Tryd.pinned.checked.prog.funcNamed "phosphor/phosphorlaw10.IsoApart" = some f) (hfn : Tryd.pinned.checked.prog.funcs[f]? = some fn) :
    false = Tryd.pinned.checked.prog.looks [] ∧ ∀ (j : Nat) t, fn.params[j]? = some t → Tryd.pinned.checked.prog.wantsStandIn t = false := by
  obtain rfl : f = 10 := Option.some.inj ((show Tryd.prog.funcNamed "phosphor/phosphorlaw10.IsoApart" = some 10 by kernel_rfl).symm.trans hf) |>.symm
  obtain rfl : fn = Tryd.f10 := (Option.some.inj (Tryd.func10.symm.trans hfn)).symm
  refine ⟨by kernel_rfl, fun j t ht => ?_⟩
  rw [Tryd.params10] at ht
  have hm : t ∈ [35, 3, 3] := by simpa using Array.mem_of_getElem? ht
  have hall : ([35, 3, 3].all fun u => !Tryd.prog.wantsStandIn u) = true := by kernel_rfl
  exact (show Tryd.prog.wantsStandIn t = false by simpa using List.all_eq_true.1 hall t hm)

/-- The card. -/
theorem card : Rows.IsoApartCardSaid :=
  Claim7.holds_tied_plain_at .later [] _ _ _ _ said (fun _ h => by cases h) (by kernel_rfl) (fun _ h => by cases h) isoApart_row_tie rfl ⟨rfl, rfl⟩ (by kernel_rfl) rfl plain (by kernel_rfl)
#print axioms card
end Go.Proofs.YtmpbalocohoihaaDoor.isoApart

/-
  PhosphorNested holds, whatever the input.
-/
import Derived.Test.YthmodjnbpmigcaaFrame0
import Derived.Test.YthmodjnbpmigcaaBoxU
import Derived.Test.YthmodjnbpmigcaaFrameX
import Derived.Deep.DeepCutAuto
namespace Go.Proofs.Ythmodjnbpmigcaa.phosphorNested
open Go.ChangeShapes Go.WideShapes Go.ChangeAt Go.RowKit
open Go.ChangeMaps (open_string)

set_option maxRecDepth 100000 in
set_option maxHeartbeats 16000000 in
theorem walk (t0 l0 b0 r0 : Int) (A : Option Addr) (c : Nat) (ms : List Int) (hma : ms.length ≤ 17592186043904) (hca : ms.length ≤ c) (B : Option Addr) (d : Nat) (ns : List Int) (hmb : ns.length ≤ 17592186043904) (hcb : ns.length ≤ d) (w : World) (hRa : RInts w A ms) (hRb : RInts w B ns) :
    Calls Try.prog 9 #[bV t0 l0 b0 r0, .slice A ms.length c, .slice B ns.length d] w fun e w' => e = .returned (.bool true) ∧ Below w.heap.size w w' := by
  have HR0 := Lib.hid (fun A' c' (hc' : 2 ≤ c') W h => rect_any 0 0 3 4 (by unfold Sm; omega) (by unfold Sm; omega) (by unfold Sm; omega) (by unfold Sm; omega) A' c' [2, 2] (by simp) hc' 0 W h)
  rw [show rectT 0 0 3 4 [2, 2] 0 = ((1, 1, 3, 4), true) from by decide +kernel] at HR0
  have hq0 : ∀ W, (binOp .neq 23 (.agg #[.int .i64 1, .int .i64 1, .int .i64 3, .int .i64 4]) (.agg #[.int .i64 1, .int .i64 1, .int .i64 3, .int .i64 4])).run Try.prog W = .ok (.bool false) W := fun W => neq_box W 1 1 3 4 1 1 3 4
  have HQ0 := Lib.hid hq0
  have HG1 := Lib.hid guard_box'
  have HG2 := Lib.hid guard_pos'
  have HC1 := Lib.hid (fun W => calls_same (clamp3_any t0 0 50 W))
  have HC2 := Lib.hid (fun W => calls_same (clamp3_any l0 0 50 W))
  have HC3 := Lib.hid (fun W => calls_same (clamp3_any b0 0 99 W))
  have HC4 := Lib.hid (fun W => calls_same (clamp3_any r0 0 99 W))
  have ht := c3_in t0 0 50 (by omega)
  have hl := c3_in l0 0 50 (by omega)
  have hb := c3_in b0 0 99 (by omega)
  have hr := c3_in r0 0 99 (by omega)
  generalize c3 t0 0 50 = t at *
  generalize c3 l0 0 50 = l at *
  generalize c3 b0 0 99 = b at *
  generalize c3 r0 0 99 = r at *
  have s0 : Sm t := by unfold Sm; omega
  have s1 : Sm l := by unfold Sm; omega
  have s2 : Sm b := by unfold Sm; omega
  have s3 : Sm r := by unfold Sm; omega
  have HP := Lib.hid (fun W h => rect_any t l b r s0 s1 s2 s3 A c ms hma hca 0 W h)
  obtain ⟨res, hres⟩ : ∃ m, m = rectT t l b r ms 0 := ⟨_, rfl⟩
  rw [← hres] at HP
  have hone : res.2 = true ∨ res = ((0, 0, 0, 0), false) := by
    cases h : res.2
    · right
      have := rectQ_no t l b r _ _ _ _ (by rw [hres] at h; exact h)
      rw [hres]; exact this
    · exact .inl rfl
  obtain ⟨⟨x1, x2, y1, y2⟩, ok⟩ := res
  simp only at HP
  have h1 : (ok = true ∧ (t ≤ x1 ∧ x1 < y1 ∧ y1 ≤ b) ∧ (l ≤ x2 ∧ x2 < y2 ∧ y2 ≤ r)) ∨ (ok = false ∧ x1 = 0 ∧ x2 = 0 ∧ y1 = 0 ∧ y2 = 0) := by
    rcases hone with h | h
    · have h' : ok = true := h
      subst h'
      exact .inl ⟨rfl, rectT_in t l b r ms 0 x1 x2 y1 y2 hres.symm⟩
    · injection h with h h'
      injection h with h1 h
      injection h with h2 h
      injection h with h3 h4
      exact .inr ⟨h', h1, h2, h3, h4⟩
  clear hres hone
  have s4 : Sm x1 := by unfold Sm; omega
  have s5 : Sm x2 := by unfold Sm; omega
  have s6 : Sm y1 := by unfold Sm; omega
  have s7 : Sm y2 := by unfold Sm; omega
  have HP2 := Lib.hid (fun W h => rect_any x1 x2 y1 y2 s4 s5 s6 s7 B d ns hmb hcb 0 W h)
  obtain ⟨res, hres⟩ : ∃ m, m = rectT x1 x2 y1 y2 ns 0 := ⟨_, rfl⟩
  rw [← hres] at HP2
  have htwo : res.2 = true ∨ res = ((0, 0, 0, 0), false) := by
    cases h : res.2
    · right
      have := rectQ_no x1 x2 y1 y2 _ _ _ _ (by rw [hres] at h; exact h)
      rw [hres]; exact this
    · exact .inl rfl
  have hno : ok = false → res = ((0, 0, 0, 0), false) := fun h => by
    rcases h1 with ⟨h', _⟩ | ⟨_, e1, e2, e3, e4⟩
    · rw [h] at h'; cases h'
    · subst e1 e2 e3 e4
      rw [hres]; exact rectT_none ns 0
  obtain ⟨⟨u1, u2, v1, v2⟩, is⟩ := res
  simp only at HP2
  have h2 : (is = true ∧ (x1 ≤ u1 ∧ u1 < v1 ∧ v1 ≤ y1) ∧ (x2 ≤ u2 ∧ u2 < v2 ∧ v2 ≤ y2)) ∨ (is = false ∧ u1 = 0 ∧ u2 = 0 ∧ v1 = 0 ∧ v2 = 0) := by
    rcases htwo with h | h
    · have h' : is = true := h
      subst h'
      exact .inl ⟨rfl, rectT_in x1 x2 y1 y2 ns 0 u1 u2 v1 v2 hres.symm⟩
    · injection h with h h'
      injection h with h1 h
      injection h with h2 h
      injection h with h3 h4
      exact .inr ⟨h', h1, h2, h3, h4⟩
  have hno' : ok = false → is = false := fun h => by have := hno h; injection this
  clear hres htwo hno
  have s8 : Sm u1 := by unfold Sm; omega
  have s9 : Sm u2 := by unfold Sm; omega
  have s10 : Sm v1 := by unfold Sm; omega
  have s11 : Sm v2 := by unfold Sm; omega
  have HPl := Lib.hid (fun W h => place_any u1 u2 v1 v2 s8 s9 s10 s11 B d ns hmb hcb 2 W h)
  obtain ⟨res2, hres2⟩ : ∃ m, m = placeT u1 u2 v1 v2 ns 2 := ⟨_, rfl⟩
  rw [← hres2] at HPl
  have hin : is = true → inB u1 u2 v1 v2 res2.1 res2.2 = true := fun h => by
    rw [hres2]
    refine placeT_in u1 u2 v1 v2 ns 2 ?_
    rcases h2 with ⟨_, g1, g2⟩ | ⟨h', _⟩
    · unfold bEm emB; simp; omega
    · rw [h] at h'; cases h'
  obtain ⟨p, q⟩ := res2
  simp only at HPl hin
  have HM1 := Lib.hid (fun (h : is = true) W => (by
    have := meet_any u1 u2 v1 v2 x1 x2 y1 y2 W
    rw [meetT_sub x1 x2 y1 y2 u1 u2 v1 v2 (by rcases h2 with ⟨_, g⟩ | ⟨h', _⟩; exact g.1; rw [h] at h'; cases h') (by rcases h2 with ⟨_, g⟩ | ⟨h', _⟩; exact g.2; rw [h] at h'; cases h')] at this
    exact this : Calls Try.prog 11 #[bV u1 u2 v1 v2, bV x1 x2 y1 y2] W fun e w' => e = .returned (bV u1 u2 v1 v2) ∧ Below W.heap.size W w'))
  have hsub : is = true → (t ≤ u1 ∧ u1 < v1 ∧ v1 ≤ b) ∧ (l ≤ u2 ∧ u2 < v2 ∧ v2 ≤ r) := fun h => by
    rcases h2 with ⟨_, g⟩ | ⟨h', _⟩
    · rcases h1 with ⟨_, g'⟩ | ⟨h', e1, e2, e3, e4⟩
      · omega
      · rw [hno' h'] at h; cases h
    · rw [h] at h'; cases h'
  have HM2 := Lib.hid (fun (h : is = true) W => (by
    have := meet_any u1 u2 v1 v2 t l b r W
    rw [meetT_sub t l b r u1 u2 v1 v2 (hsub h).1 (hsub h).2] at this
    exact this : Calls Try.prog 11 #[bV u1 u2 v1 v2, bV t l b r] W fun e w' => e = .returned (bV u1 u2 v1 v2) ∧ Below W.heap.size W w'))
  have HI := Lib.hid (fun (h : is = true) W => (by
    have := refIn_any u1 u2 v1 v2 p q W
    rw [hin h] at this
    exact this : Calls Try.prog 16 #[bV u1 u2 v1 v2, .int .i64 p, .int .i64 q] W fun e w' => e = .returned (.bool true) ∧ Below W.heap.size W w'))
  have HCl := Lib.hid (fun (h : is = true) W => (by
    have := bclamp_any t l b r p q s0 s1 s2 s3 W
    rw [clampT_same t l b r p q (by have h3 := hin h; have h4 := hsub h; rw [inB_iff] at h3 ⊢; omega)] at this
    exact this : Calls Try.prog 19 #[bV t l b r, pV p q] W fun e w' => e = .returned (pV p q) ∧ Below W.heap.size W w'))
  have hcs : (ok = false ∧ is = false ∧ x1 = 0 ∧ x2 = 0 ∧ y1 = 0 ∧ y2 = 0 ∧ u1 = 0 ∧ u2 = 0 ∧ v1 = 0 ∧ v2 = 0) ∨ (ok = true ∧ is = false ∧ u1 = 0 ∧ u2 = 0 ∧ v1 = 0 ∧ v2 = 0) ∨ (ok = true ∧ is = true) := by
    rcases h1 with ⟨e, _⟩ | ⟨e, e1⟩
    · rcases h2 with ⟨e', _⟩ | ⟨e', e2⟩
      · exact .inr (.inr ⟨e, e'⟩)
      · exact .inr (.inl ⟨e, e', e2⟩)
    · rcases h2 with ⟨e', _⟩ | ⟨e', e2⟩
      · rw [hno' e] at e'; cases e'
      · exact .inl ⟨e, e', e1.1, e1.2.1, e1.2.2.1, e1.2.2.2, e2⟩
  have HCS := Lib.hid hcs
  clear hcs hno' h1 h2 hin hsub s0 s1 s2 s3 s4 s5 s6 s7 s8 s9 s10 s11 ht hl hb hr hres2
  have HRa := Lib.hid hRa
  have HRb := Lib.hid hRb
  clear hRa hRb
  have hq1 : ∀ W, (binOp .eql 23 (.agg #[.int .i64 u1, .int .i64 u2, .int .i64 v1, .int .i64 v2]) (.agg #[.int .i64 u1, .int .i64 u2, .int .i64 v1, .int .i64 v2])).run Try.prog W = .ok (.bool true) W := fun W => by
    have := eql_box W u1 u2 v1 v2 u1 u2 v1 v2
    rwa [show eqB4 u1 u2 v1 v2 u1 u2 v1 v2 = true from by unfold eqB4; simp] at this
  have hq2 : ∀ W, (binOp .eql 25 (.agg #[.int .i64 p, .int .i64 q]) (.agg #[.int .i64 p, .int .i64 q])).run Try.prog W = .ok (.bool true) W := fun W => by
    have := eql_pos W p q p q
    rwa [show eqB2 p q p q = true from by unfold eqB2; simp] at this
  have hq3 : ∀ W, (binOp .eql 23 (.agg #[.int .i64 0, .int .i64 0, .int .i64 0, .int .i64 0]) (.agg #[.int .i64 0, .int .i64 0, .int .i64 0, .int .i64 0])).run Try.prog W = .ok (.bool true) W := fun W => eql_box W 0 0 0 0 0 0 0 0
  have HQ1 := Lib.hid hq1
  have HQ2 := Lib.hid hq2
  have HQ3 := Lib.hid hq3
  clear hq1 hq2 hq3
  generalize ms.length = ma at *
  generalize ns.length = mb at *
  have HN := Lib.hid (new1 w 23 (bC t0 l0 b0 r0))
  unfold bV pV at *
  go_enter Try.func9, Try.ntmps9
  go_wp2_with fail
  refine (HR0.out (some ⟨w.heap.size + 1, 0, none⟩) 2 (by omega) _ (by
    have := rints_new (w.alloc (.cells #[.int .i64 t0, .int .i64 l0, .int .i64 b0, .int .i64 r0] 23)) 3 [2, 2] #[.int .i64 2, .int .i64 2] rfl (w.heap.size + 1) (by simp)
    exact this)).mono ?_
  rintro e w1 ⟨rfl, hb1⟩
  have HK1 := Lib.hid (And.intro ((HN.out.1.alloc _).next hb1) (bstep (bstep HN.out.2 (new1 _ _ _).2) hb1))
  have hq0 := HQ0.out
  have hg0 := HG1.out
  go_wp2_with fail
  clear hq0 hg0 HQ0 HR0
  refine world_gen (fun W => Blk W w.heap.size 23 (bC t0 l0 b0 r0) ∧ Below w.heap.size w W) ⟨HK1.out.1.alloc _, bstep HK1.out.2 (new1 w1 _ _).2⟩ ?_
  intro W HW
  replace HW := Lib.hid HW
  clear HK1 HN hb1
  refine wp_region_mix_lit (by kernel_rfl) [(2, .call (.int .i64 t)), (5, .call (.int .i64 l)), (8, .call (.int .i64 b)), (11, .call (.int .i64 r)), (13, .store w.heap.size 23 (bC t0 l0 b0 r0) (fun _ => bC t l b r))] (by kernel_rfl) (by kernel_rfl) (by kernel_rfl) (by rfl) (by simp [apartK] <;> omega) (by simp [startK]; exact HW.out.1) (by simp [stabK]) (⟨fun _ => undef, by simp [okK]⟩) (fun β hβ => ?_)
  repeat (
    refine lex_val (v := ?_) rfl rfl (fun w' hf => ?_) ?_
    rotate_left
    · obtain ⟨c0, c1, c2, c3, _⟩ := blk4 (hf.old 13 _ _ _ _ rfl (by kernel_rfl)); go_simp
      try rfl
    try simp only [Act.put, List.setIfInBounds_toArray, List.set_cons_zero, List.set_cons_succ])
  refine lex_call (f := 29) (args := ?_) rfl rfl (fun w' hf => ?_) (fun w' hf => ?_) ?_
  rotate_left
  · go_simp
    try rfl
  · exact HC1.out w'
  try simp only [Act.put, List.setIfInBounds_toArray, List.set_cons_zero, List.set_cons_succ]
  repeat (
    refine lex_val (v := ?_) rfl rfl (fun w' hf => ?_) ?_
    rotate_left
    · obtain ⟨c0, c1, c2, c3, _⟩ := blk4 (hf.old 13 _ _ _ _ rfl (by kernel_rfl)); go_simp
      try rfl
    try simp only [Act.put, List.setIfInBounds_toArray, List.set_cons_zero, List.set_cons_succ])
  refine lex_call (f := 29) (args := ?_) rfl rfl (fun w' hf => ?_) (fun w' hf => ?_) ?_
  rotate_left
  · go_simp
    try rfl
  · exact HC2.out w'
  try simp only [Act.put, List.setIfInBounds_toArray, List.set_cons_zero, List.set_cons_succ]
  repeat (
    refine lex_val (v := ?_) rfl rfl (fun w' hf => ?_) ?_
    rotate_left
    · obtain ⟨c0, c1, c2, c3, _⟩ := blk4 (hf.old 13 _ _ _ _ rfl (by kernel_rfl)); go_simp
      try rfl
    try simp only [Act.put, List.setIfInBounds_toArray, List.set_cons_zero, List.set_cons_succ])
  refine lex_call (f := 29) (args := ?_) rfl rfl (fun w' hf => ?_) (fun w' hf => ?_) ?_
  rotate_left
  · go_simp
    try rfl
  · exact HC3.out w'
  try simp only [Act.put, List.setIfInBounds_toArray, List.set_cons_zero, List.set_cons_succ]
  repeat (
    refine lex_val (v := ?_) rfl rfl (fun w' hf => ?_) ?_
    rotate_left
    · obtain ⟨c0, c1, c2, c3, _⟩ := blk4 (hf.old 13 _ _ _ _ rfl (by kernel_rfl)); go_simp
      try rfl
    try simp only [Act.put, List.setIfInBounds_toArray, List.set_cons_zero, List.set_cons_succ])
  refine lex_call (f := 29) (args := ?_) rfl rfl (fun w' hf => ?_) (fun w' hf => ?_) ?_
  rotate_left
  · go_simp
    try rfl
  · exact HC4.out w'
  try simp only [Act.put, List.setIfInBounds_toArray, List.set_cons_zero, List.set_cons_succ]
  repeat (
    refine lex_val (v := ?_) rfl rfl (fun w' hf => ?_) ?_
    rotate_left
    · go_simp
      try rfl
    try simp only [Act.put, List.setIfInBounds_toArray, List.set_cons_zero, List.set_cons_succ])
  refine lex_store rfl rfl (fun w' hf hB => ⟨_, ?_, repl4 hB _ _ _ _⟩) ?_
  · have gB := blk4 hB
    go_simp
  try simp only [Act.put]
  refine lex_nil fun w2 he => ?_
  have HK2 := Lib.hid (show Blk w2 w.heap.size 23 (bC t l b r) ∧ Below w.heap.size w w2 from ⟨he.facts 13, HW.out.2.trans (he.only.below (B := w.heap.size) HW.out.2.size (by simp [stores, Kind.at_]))⟩)
  clear he hβ HW HC1 HC2 HC3 HC4
  obtain ⟨c0, c1, c2, c3, _⟩ := blk4 HK2.out.1
  go_wp2_with fail
  refine (HP.out _ (HRa.out.next HK2.out.2)).mono ?_
  rintro e w3 ⟨rfl, hb3⟩
  have HN3 := Lib.hid (new1 w3 23 #[.int .i64 x1, .int .i64 x2, .int .i64 y1, .int .i64 y2])
  have HK3 := Lib.hid (And.intro ((HK2.out.1.next hb3).alloc (.cells #[.int .i64 x1, .int .i64 x2, .int .i64 y1, .int .i64 y2] 23)) (And.intro HN3.out.1 (bstep (bstep HK2.out.2 hb3) HN3.out.2)))
  clear hb3 c0 c1 c2 c3
  go_wp2_with fail
  refine (HP2.out _ (HRb.out.next HK3.out.2.2)).mono ?_
  rintro e w4 ⟨rfl, hb4⟩
  have HN4 := Lib.hid (new1 w4 23 #[.int .i64 u1, .int .i64 u2, .int .i64 v1, .int .i64 v2])
  have HLt := Lib.hid (HK3.out.2.1.next hb4).lt
  have HK4 := Lib.hid (And.intro ((HK3.out.1.next hb4).alloc (.cells #[.int .i64 u1, .int .i64 u2, .int .i64 v1, .int .i64 v2] 23)) (And.intro ((HK3.out.2.1.next hb4).alloc (.cells #[.int .i64 u1, .int .i64 u2, .int .i64 v1, .int .i64 v2] 23)) (And.intro HN4.out.1 (bstep (bstep HK3.out.2.2 hb4) HN4.out.2))))
  clear hb4 HN3 HN4 HK3 HK2
  go_upto_if 53 with (fail)
  refine world_gen (fun W => Blk W w.heap.size 23 (bC t l b r) ∧ Blk W w3.heap.size 23 (bC x1 x2 y1 y2) ∧ Blk W w4.heap.size 23 (bC u1 u2 v1 v2) ∧ Below w.heap.size w W) HK4.out ?_
  intro W5 HW5
  replace HW5 := Lib.hid HW5
  clear HK4
  rcases HCS.out with ⟨rfl, rfl, rfl, rfl, rfl, rfl, rfl, rfl, rfl, rfl⟩ | ⟨rfl, rfl, rfl, rfl, rfl, rfl⟩ | ⟨rfl, rfl⟩
  · obtain ⟨c0, c1, c2, c3, _⟩ := blk4 HW5.out.2.1
    have hq3 := HQ3.out
    have hg := HG1.out
    go_wp2_with fail
    go_ret
    exact ⟨by simp, HW5.out.2.2.2⟩
  · obtain ⟨c0, c1, c2, c3, _⟩ := blk4 HW5.out.2.2.1
    have hq3 := HQ3.out
    have hg := HG1.out
    go_wp2_with fail
    go_ret
    exact ⟨by simp, HW5.out.2.2.2⟩
  · have HM1' := Lib.hid (HM1.out (by first | rfl | trivial))
    have HM2' := Lib.hid (HM2.out (by first | rfl | trivial))
    have HI' := Lib.hid (HI.out (by first | rfl | trivial))
    have HCl' := Lib.hid (HCl.out (by first | rfl | trivial))
    clear HM1 HM2 HI HCl HCS
    obtain ⟨c0, c1, c2, c3, _⟩ := blk4 HW5.out.2.2.1
    go_wp2_with fail
    refine (HPl.out _ (HRb.out.next HW5.out.2.2.2)).mono ?_
    rintro e w6 ⟨rfl, hb6⟩
    have HN6 := Lib.hid (new1 w6 25 (sC p q))
    have HK6 := Lib.hid (And.intro ((HW5.out.1.next hb6).alloc (.cells (sC p q) 25)) (And.intro ((HW5.out.2.1.next hb6).alloc (.cells (sC p q) 25)) (And.intro ((HW5.out.2.2.1.next hb6).alloc (.cells (sC p q) 25)) (And.intro HN6.out.1 (bstep (bstep HW5.out.2.2.2 hb6) HN6.out.2)))))
    clear hb6 c0 c1 c2 c3 HN6 HW5
    go_wp2_with fail
    refine world_gen (fun W => Blk W w.heap.size 23 (bC t l b r) ∧ Blk W w3.heap.size 23 (bC x1 x2 y1 y2) ∧ Blk W w4.heap.size 23 (bC u1 u2 v1 v2) ∧ Blk W w6.heap.size 25 (sC p q) ∧ Below w.heap.size w W) HK6.out ?_
    intro W7 HW7
    replace HW7 := Lib.hid HW7
    clear HK6
    have HC := Lib.hid (fun w' (h : Only [] W7 w') => And.intro (blk4 (h.blk HW7.out.1 (by simp))) (And.intro (blk4 (h.blk HW7.out.2.1 (by simp))) (And.intro (blk4 (h.blk HW7.out.2.2.1 (by simp))) (blk2 (h.blk HW7.out.2.2.2.1 (by simp))))))
    refine wp_region_mix_lit (by kernel_rfl) [(2, .call (.agg #[.int .i64 u1, .int .i64 u2, .int .i64 v1, .int .i64 v2])), (8, .call (.agg #[.int .i64 u1, .int .i64 u2, .int .i64 v1, .int .i64 v2])), (18, .call (.bool true)), (23, .call (.agg #[.int .i64 p, .int .i64 q]))] (by kernel_rfl) (by kernel_rfl) (by kernel_rfl) (by rfl) (by simp [apartK] <;> omega) (by simp [startK]) (by simp [stabK]) (⟨fun _ => undef, by simp [okK]⟩) (fun β hβ => ?_)
    repeat (
      refine lex_val (v := ?_) rfl rfl (fun w' hf => ?_) ?_
      rotate_left
      · obtain ⟨⟨c0, c1, c2, c3, _⟩, ⟨d0, d1, d2, d3, _⟩, ⟨f0, f1, f2, f3, _⟩, g0, g1, _⟩ := HC.out w' hf.only; have hq := HQ1.out; have hg := HG1.out; go_simp
        try rfl
      try simp only [Act.put, List.setIfInBounds_toArray, List.set_cons_zero, List.set_cons_succ])
    refine lex_call (f := 11) (args := ?_) rfl rfl (fun w' hf => ?_) (fun w' hf => ?_) ?_
    rotate_left
    · go_simp
      try rfl
    · exact HM1'.out w'
    try simp only [Act.put, List.setIfInBounds_toArray, List.set_cons_zero, List.set_cons_succ]
    repeat (
      refine lex_val (v := ?_) rfl rfl (fun w' hf => ?_) ?_
      rotate_left
      · obtain ⟨⟨c0, c1, c2, c3, _⟩, ⟨d0, d1, d2, d3, _⟩, ⟨f0, f1, f2, f3, _⟩, g0, g1, _⟩ := HC.out w' hf.only; have hq := HQ1.out; have hg := HG1.out; go_simp
        try rfl
      try simp only [Act.put, List.setIfInBounds_toArray, List.set_cons_zero, List.set_cons_succ])
    refine lex_call (f := 11) (args := ?_) rfl rfl (fun w' hf => ?_) (fun w' hf => ?_) ?_
    rotate_left
    · go_simp
      try rfl
    · exact HM2'.out w'
    try simp only [Act.put, List.setIfInBounds_toArray, List.set_cons_zero, List.set_cons_succ]
    repeat (
      refine lex_val (v := ?_) rfl rfl (fun w' hf => ?_) ?_
      rotate_left
      · obtain ⟨⟨c0, c1, c2, c3, _⟩, ⟨d0, d1, d2, d3, _⟩, ⟨f0, f1, f2, f3, _⟩, g0, g1, _⟩ := HC.out w' hf.only; have hq := HQ1.out; have hg := HG1.out; go_simp
        try rfl
      try simp only [Act.put, List.setIfInBounds_toArray, List.set_cons_zero, List.set_cons_succ])
    refine lex_call (f := 16) (args := ?_) rfl rfl (fun w' hf => ?_) (fun w' hf => ?_) ?_
    rotate_left
    · go_simp
      try rfl
    · exact HI'.out w'
    try simp only [Act.put, List.setIfInBounds_toArray, List.set_cons_zero, List.set_cons_succ]
    repeat (
      refine lex_val (v := ?_) rfl rfl (fun w' hf => ?_) ?_
      rotate_left
      · obtain ⟨⟨c0, c1, c2, c3, _⟩, ⟨d0, d1, d2, d3, _⟩, ⟨f0, f1, f2, f3, _⟩, g0, g1, _⟩ := HC.out w' hf.only; go_simp
        try rfl
      try simp only [Act.put, List.setIfInBounds_toArray, List.set_cons_zero, List.set_cons_succ])
    refine lex_call (f := 19) (args := ?_) rfl rfl (fun w' hf => ?_) (fun w' hf => ?_) ?_
    rotate_left
    · go_simp
      try rfl
    · exact HCl'.out w'
    try simp only [Act.put, List.setIfInBounds_toArray, List.set_cons_zero, List.set_cons_succ]
    repeat (
      refine lex_val (v := ?_) rfl rfl (fun w' hf => ?_) ?_
      rotate_left
      · obtain ⟨⟨c0, c1, c2, c3, _⟩, ⟨d0, d1, d2, d3, _⟩, ⟨f0, f1, f2, f3, _⟩, g0, g1, _⟩ := HC.out w' hf.only; have hq := HQ2.out; have hg := HG2.out; go_simp
        try rfl
      try simp only [Act.put, List.setIfInBounds_toArray, List.set_cons_zero, List.set_cons_succ])
    refine lex_nil fun w8 he => ?_
    have HB := Lib.hid (bstep HW7.out.2.2.2.2 he.only.below0)
    clear he
    go_wp2_with fail
    go_ret
    exact ⟨by simp, HB.out⟩

/-- What the walk gives, for every argument and every world that holds the table. -/
theorem contract (H : Type) (enc : TypeId × Value → H) (W : World) (base : Nat) (args : Array Value) (ds gs : List (DataW H)) (before : List MemPlace)
    (hval : ∀ (j : Nat) t v, Try.f9.params[j]? = some t → args[j]? = some v → Value.okWide Try.prog W .any base t v)
    (hW : DataW.Whole enc Try.prog Try.f9.params.toList Rows.phosphorNestedSpec.vars false W args.toList ds gs before) (_hL : laidMetH Try.prog Rows.phosphorNestedRow.laid W)
    (hreach : (DataW.weightsEach Try.prog (Try.f9.params.toList ++ []) (ds ++ gs)).all (· ≤ reachBytes) = true) :
    Calls Try.prog 9 args W fun e W' => ∃ v, e = .returned v ∧ Rows.phosphorNestedSpec.post enc Try.prog Try.f9 false true false false W args v W' := by
  have hW' := hW
  clear _hL
  have hlts : ∀ x ∈ before, x.block < W.heap.size := fun x hx => hW'.lt x hx
  obtain ⟨p, q, hA0, hV, rfl, hfz, hnd⟩ := hW
  have hA : DataW.TrodAll enc Try.prog W 0 (fun _ => true) true Try.f9.params.toList args.toList ds p := hA0
  rw [Try.params9] at hA hval hreach
  obtain ⟨v0, vs0, d0, ds0, pp0, qq0, hargs, rfl, rfl, h0, rr0⟩ := trodAll_cons hA
  obtain ⟨v1, vs1, d1, ds1, pp1, qq1, rfl, rfl, rfl, h1, rr1⟩ := trodAll_cons rr0
  obtain ⟨v2, vs2, d2, ds2, pp2, qq2, rfl, rfl, rfl, h2, rr2⟩ := trodAll_cons rr1
  obtain ⟨rfl, rfl, rfl⟩ := trodAll_nil rr2
  obtain rfl : args = #[v0, v1, v2] := by cases args; simp_all
  obtain ⟨rfl, rfl⟩ := trodVars_none hV
  obtain ⟨t0, l0, b0, r0, rfl⟩ := box_in (hval 0 23 v0 rfl rfl) h0
  obtain ⟨b1, len1, cap1, rfl⟩ := okWide_slice Try.underlying39 (hval 1 39 v1 rfl rfl)
  have hin1 := ints_in2 h1 (fun el sp e => by subst e; exact sized_slice hreach (j := 1) rfl rfl Try.underlying39)
  obtain ⟨ns1, hlen1, hm1, hc1, hri1⟩ := hin1
  subst hlen1
  obtain ⟨b2, len2, cap2, rfl⟩ := okWide_slice Try.underlying39 (hval 2 39 v2 rfl rfl)
  have hin2 := ints_in2 h2 (fun el sp e => by subst e; exact sized_slice hreach (j := 2) rfl rfl Try.underlying39)
  obtain ⟨ns2, hlen2, hm2, hc2, hri2⟩ := hin2
  subst hlen2
  clear hA0
  refine (walk t0 l0 b0 r0 b1 cap1 ns1 hm1 hc1 b2 cap2 ns2 hm2 hc2 W hri1 hri2).mono fun e W' ⟨he, hb⟩ => ?_
  subst he
  exact ⟨_, rfl, post_law laidOut (by kernel_rfl) (by kernel_rfl) rfl hW' rfl hb⟩

theorem laid_met (os : Os) : laidMet Try.prog Rows.phosphorNestedRow.laid ((laidWorld os).forCall (fun _ _ => 0) ⟨#[], #[Value.agg #[.int .i64 0, .int .i64 0, .int .i64 0, .int .i64 0], Value.slice none 0 0, Value.slice none 0 0], []⟩).memory :=
  laidMet_of_run' 8 (by kernel_rfl) (by kernel_rfl)
theorem reads (os : Os) {H : Type} (enc : TypeId × Value → H) : ∃ places, DataW.whole enc Try.prog ((laidWorld os).forCall (fun _ _ => 0) ⟨#[], #[Value.agg #[.int .i64 0, .int .i64 0, .int .i64 0, .int .i64 0], Value.slice none 0 0, Value.slice none 0 0], []⟩).memory Try.f9.params.toList Rows.phosphorNestedSpec.vars false (#[Value.agg #[.int .i64 0, .int .i64 0, .int .i64 0, .int .i64 0], Value.slice none 0 0, Value.slice none 0 0] : Array Value).toList 8 = some ([.agg [.lit (.int .i64 0), .lit (.int .i64 0), .lit (.int .i64 0), .lit (.int .i64 0)], .nil, .nil], [], places) :=
  ⟨[], by kernel_rfl⟩

set_option maxRecDepth 100000 in
theorem lifted (os : Os) (started : os.Started) (H : Type) (enc : TypeId × Value → H) (F : Stop.Interp) :
    ReturnsInHanded {} Try.checked os 9 .any ((OpenSpec.ofChange Rows.phosphorNestedSpec).preRow enc Try.prog Try.f9 Rows.phosphorNestedRow.domain false Rows.phosphorNestedRow.laid) (((OpenSpec.ofChange Rows.phosphorNestedSpec).at F).post enc Try.prog Try.f9 false true false false) := by
  obtain ⟨places, hx⟩ := reads os enc
  refine returnsInHanded_of_row (C := Try.checked) (s := OpenSpec.ofChange Rows.phosphorNestedSpec) own started (by kernel_rfl) Try.func9
    (witness_row_at (enc := enc) (C := Try.checked) false (laidWorld os) #[Value.agg #[.int .i64 0, .int .i64 0, .int .i64 0, .int .i64 0], Value.slice none 0 0, Value.slice none 0 0] rfl (by kernel_rfl) (by kernel_rfl) (by kernel_rfl)
      (OpenSpec.preRow_of_cond 8 hx (by kernel_rfl) (fun k hk => by cases hk) (by kernel_rfl) (laid_met os))) ?_
  intro W base args ds gs before hval hW _ _ hreach hL _ _
  exact contract H enc W base args ds gs before hval hW hL hreach

theorem said : Rows.PhosphorNestedSaid :=
  OpenClaim.holds_of_cond 9 Try.f9 rfl rfl rfl rfl rfl rfl rfl ⟨rfl, rfl, rfl, rfl, rfl⟩ rfl rfl rfl rfl rfl (by kernel_rfl) Try.func9 (by kernel_rfl)
    (of_decide_eq_true (by kernel_rfl)) (by unfold Func.isWrapper; first | (rw [if_pos (by decide +kernel)]; kernel_rfl) | (rw [if_neg (by decide +kernel)]; exact ⟨rfl, rfl⟩))
    (fun os started H enc _ F => by rw [OpenClaim.pre_eq_preRow]; exact lifted os started H enc F)

#print axioms said
end Go.Proofs.Ythmodjnbpmigcaa.phosphorNested

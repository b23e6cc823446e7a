/-
  BoxMeets holds, whatever the input.
-/
import Derived.Test.YthmodjnbpmigcaaFrame0
import Derived.Test.YthmodjnbpmigcaaBoxT
import Derived.Test.YthmodjnbpmigcaaFrameX
import Derived.Deep.DeepCutAuto
namespace Go.Proofs.Ythmodjnbpmigcaa.boxMeets
open Go.ChangeShapes Go.WideShapes Go.ChangeAt Go.RowKit
open Go.ChangeMaps (open_string)

/-- What is known of a world in the midst of the call. -/
def KBM (w : World) (g : Nat) (a b p m : Array Value) (W : World) : Prop := Blk W w.heap.size 23 a ∧ Blk W (w.heap.size + 1) 23 b ∧ Blk W (w.heap.size + 1 + 1) 25 p ∧ Blk W g 23 m ∧ Below w.heap.size w W
theorem KBM.next {w W W' : World} {g : Nat} {a b p m : Array Value} (h : KBM w g a b p m W) (hb : Below W.heap.size W W') : KBM w g a b p m W' := ⟨h.1.next hb, h.2.1.next hb, h.2.2.1.next hb, h.2.2.2.1.next hb, bstep h.2.2.2.2 hb⟩
set_option maxRecDepth 100000 in
set_option maxHeartbeats 16000000 in
theorem walk (t l b r t' l' b' r' p q : Int) (w : World) :
    Calls Try.prog 3 #[bV t l b r, bV t' l' b' r', pV p q] w fun e w' => e = .returned (.bool true) ∧ Below w.heap.size w w' := by
  obtain ⟨res, hres⟩ : ∃ m, m = meetT t l b r t' l' b' r' := ⟨_, rfl⟩
  have HM := Lib.hid (fun W => meet_any t l b r t' l' b' r' W)
  have HRM := Lib.hid (fun W => refMeet_any t l b r t' l' b' r' W)
  rw [← meet_eq] at HRM
  have HM2 := Lib.hid (fun W => meet_any t' l' b' r' t l b r W)
  rw [meetT_comm] at HM2
  rw [← hres] at HM HRM HM2
  obtain ⟨x, y, u, v⟩ := res
  have HM3 := Lib.hid (fun W => meet_any x y u v t l b r W)
  rw [meetT_again t l b r t' l' b' r' x y u v hres.symm] at HM3
  have HI := Lib.hid (meetT_in t l b r t' l' b' r' x y u v p q hres.symm)
  clear hres
  simp only at HM HRM HM2 HM3
  have HEa := Lib.hid (fun W => empty_any t l b r W)
  have HEa' := Lib.hid (fun W => refEmpty_any t l b r W)
  have HEm := Lib.hid (fun W => empty_any x y u v W)
  have HIa := Lib.hid (fun W => in_any t l b r p q W)
  have HIa' := Lib.hid (fun W => refIn_any t l b r p q W)
  have HIb := Lib.hid (fun W => in_any t' l' b' r' p q W)
  have HIm := Lib.hid (fun W => in_any x y u v p q W)
  have HW := Lib.hid (fun W => whole_any p q W)
  generalize bEm t l b r = ea at *
  generalize bEm x y u v = em at *
  generalize inB t l b r p q = ia at *
  generalize inB t' l' b' r' p q = ib at *
  generalize inB x y u v p q = im at *
  have hpc : (p < 0 ∧ max p 0 = 0) ∨ (¬ p < 0 ∧ max p 0 = p) := by omega
  have hqc : (q < 0 ∧ max q 0 = 0) ∨ (¬ q < 0 ∧ max q 0 = q) := by omega
  have HPC := Lib.hid hpc
  have HQC := Lib.hid hqc
  clear hpc hqc
  have HN := Lib.hid (new3 w 23 23 25 (bC t l b r) (bC t' l' b' r') (sC p q))
  have hq1 : ∀ W, (binOp .neq 23 (.agg #[.int .i64 x, .int .i64 y, .int .i64 u, .int .i64 v]) (.agg #[.int .i64 x, .int .i64 y, .int .i64 u, .int .i64 v])).run Try.prog W = .ok (.bool false) W := fun W => by
    have := neq_box W x y u v x y u v
    rwa [show eqB4 x y u v x y u v = true from by unfold eqB4; simp] at this
  have hq2 : ∀ W, (binOp .eql 23 (.agg #[.int .i64 x, .int .i64 y, .int .i64 u, .int .i64 v]) (.agg #[.int .i64 x, .int .i64 y, .int .i64 u, .int .i64 v])).run Try.prog W = .ok (.bool true) W := fun W => by
    have := eql_box W x y u v x y u v
    rwa [show eqB4 x y u v x y u v = true from by unfold eqB4; simp] at this
  have HQ1 := Lib.hid hq1
  have HQ2 := Lib.hid hq2
  have HG := Lib.hid guard_box'
  clear hq1 hq2
  unfold bV pV at *
  go_enter Try.func3, Try.ntmps3
  go_wp2_with fail
  refine (awake5_any _).mono ?_
  rintro e w1 ⟨rfl, hb1⟩
  have HK1 := Lib.hid (And.intro (HN.out.1.next hb1) (And.intro (HN.out.2.1.next hb1) (And.intro (HN.out.2.2.1.next hb1) (bstep HN.out.2.2.2 hb1))))
  clear hb1
  obtain ⟨c0, c1, c2, c3, _⟩ := blk4 HK1.out.1
  obtain ⟨d0, d1, d2, d3, _⟩ := blk4 HK1.out.2.1
  go_wp2_with fail
  refine (HM.out _).mono ?_
  rintro e w2 ⟨rfl, hb2⟩
  have HK2 := Lib.hid (And.intro (HK1.out.1.next hb2) (And.intro (HK1.out.2.1.next hb2) (And.intro (HK1.out.2.2.1.next hb2) (bstep HK1.out.2.2.2 hb2))))
  clear hb2 c0 c1 c2 c3 d0 d1 d2 d3 HK1
  go_wp2_with fail
  refine world_gen (fun W => Blk W w.heap.size 23 (bC t l b r) ∧ Blk W (w.heap.size + 1) 23 (bC t' l' b' r') ∧ Blk W (w.heap.size + 1 + 1) 25 (sC p q) ∧ Blk W w2.heap.size 23 (bC x y u v) ∧ Below w.heap.size w W)
    ⟨HK2.out.1.alloc _, HK2.out.2.1.alloc _, HK2.out.2.2.1.alloc _, (new1 w2 _ _).1, bstep HK2.out.2.2.2 (new1 w2 _ _).2⟩ ?_
  intro W HWW
  replace HWW := Lib.hid HWW
  have HC := Lib.hid (fun w' (h : Only [] W w') => And.intro (blk4 (h.blk HWW.out.1 (by simp))) (And.intro (blk4 (h.blk HWW.out.2.1 (by simp))) (And.intro (blk2 (h.blk HWW.out.2.2.1 (by simp))) (blk4 (h.blk HWW.out.2.2.2.1 (by simp))))))
  refine wp_region_mix_lit (by kernel_rfl) [(3, .call (.agg #[.int .i64 x, .int .i64 y, .int .i64 u, .int .i64 v])), (7, .call (.bool ea)), (9, .call (.bool ea)), (15, .call (.bool ia)), (21, .call (.bool ia))] (by kernel_rfl) (by kernel_rfl) (by kernel_rfl) (by rfl) (by simp [apartK] <;> omega) (by simp [startK]) (by simp [stabK]) (⟨fun _ => undef, by simp [okK]⟩) (fun β hβ => ?_)
  repeat (
    refine lex_val (v := ?_) rfl rfl (fun w' hf => ?_) ?_
    rotate_left
    · obtain ⟨⟨c0, c1, c2, c3, _⟩, ⟨d0, d1, d2, d3, _⟩, ⟨f0, f1, _⟩, g0, g1, g2, g3, _⟩ := HC.out w' hf.only; have hq := HQ1.out; have hg := HG.out; go_simp
      try rfl
    try simp only [Act.put, List.setIfInBounds_toArray, List.set_cons_zero, List.set_cons_succ])
  refine lex_call (f := 12) (args := ?_) rfl rfl (fun w' hf => ?_) (fun w' hf => ?_) ?_
  rotate_left
  · go_simp
    try rfl
  · exact HRM.out w'
  try simp only [Act.put, List.setIfInBounds_toArray, List.set_cons_zero, List.set_cons_succ]
  repeat (
    refine lex_val (v := ?_) rfl rfl (fun w' hf => ?_) ?_
    rotate_left
    · obtain ⟨⟨c0, c1, c2, c3, _⟩, ⟨d0, d1, d2, d3, _⟩, ⟨f0, f1, _⟩, g0, g1, g2, g3, _⟩ := HC.out w' hf.only; have hq := HQ1.out; have hg := HG.out; go_simp
      try rfl
    try simp only [Act.put, List.setIfInBounds_toArray, List.set_cons_zero, List.set_cons_succ])
  refine lex_call (f := 13) (args := ?_) rfl rfl (fun w' hf => ?_) (fun w' hf => ?_) ?_
  rotate_left
  · go_simp
    try rfl
  · exact HEa.out w'
  try simp only [Act.put, List.setIfInBounds_toArray, List.set_cons_zero, List.set_cons_succ]
  repeat (
    refine lex_val (v := ?_) rfl rfl (fun w' hf => ?_) ?_
    rotate_left
    · obtain ⟨⟨c0, c1, c2, c3, _⟩, _⟩ := HC.out w' hf.only; go_simp
      try rfl
    try simp only [Act.put, List.setIfInBounds_toArray, List.set_cons_zero, List.set_cons_succ])
  refine lex_call (f := 14) (args := ?_) rfl rfl (fun w' hf => ?_) (fun w' hf => ?_) ?_
  rotate_left
  · go_simp
    try rfl
  · exact HEa'.out w'
  try simp only [Act.put, List.setIfInBounds_toArray, List.set_cons_zero, List.set_cons_succ]
  repeat (
    refine lex_val (v := ?_) rfl rfl (fun w' hf => ?_) ?_
    rotate_left
    · obtain ⟨⟨c0, c1, c2, c3, _⟩, ⟨d0, d1, d2, d3, _⟩, ⟨f0, f1, _⟩, _⟩ := HC.out w' hf.only; go_simp
      try rfl
    try simp only [Act.put, List.setIfInBounds_toArray, List.set_cons_zero, List.set_cons_succ])
  refine lex_call (f := 15) (args := ?_) rfl rfl (fun w' hf => ?_) (fun w' hf => ?_) ?_
  rotate_left
  · go_simp
    try rfl
  · exact HIa.out w'
  try simp only [Act.put, List.setIfInBounds_toArray, List.set_cons_zero, List.set_cons_succ]
  repeat (
    refine lex_val (v := ?_) rfl rfl (fun w' hf => ?_) ?_
    rotate_left
    · obtain ⟨⟨c0, c1, c2, c3, _⟩, ⟨d0, d1, d2, d3, _⟩, ⟨f0, f1, _⟩, _⟩ := HC.out w' hf.only; go_simp
      try rfl
    try simp only [Act.put, List.setIfInBounds_toArray, List.set_cons_zero, List.set_cons_succ])
  refine lex_call (f := 16) (args := ?_) rfl rfl (fun w' hf => ?_) (fun w' hf => ?_) ?_
  rotate_left
  · go_simp
    try rfl
  · exact HIa'.out w'
  try simp only [Act.put, List.setIfInBounds_toArray, List.set_cons_zero, List.set_cons_succ]
  repeat (
    refine lex_val (v := ?_) rfl rfl (fun w' hf => ?_) ?_
    rotate_left
    · go_simp
      try rfl
    try simp only [Act.put, List.setIfInBounds_toArray, List.set_cons_zero, List.set_cons_succ])
  refine lex_nil fun w3 he => ?_
  have HK3 := Lib.hid (And.intro (HWW.out.1.next he.only.below0) (And.intro (HWW.out.2.1.next he.only.below0) (And.intro (HWW.out.2.2.1.next he.only.below0) (And.intro (HWW.out.2.2.2.1.next he.only.below0) (bstep HWW.out.2.2.2.2 he.only.below0)))))
  clear he HC hβ HWW HK2 HRM HEa HEa' HIa' HM
  have HC := Lib.hid (fun w' (h : Only [] w3 w') => And.intro (blk4 (h.blk HK3.out.1 (by simp))) (And.intro (blk4 (h.blk HK3.out.2.1 (by simp))) (And.intro (blk2 (h.blk HK3.out.2.2.1 (by simp))) (blk4 (h.blk HK3.out.2.2.2.1 (by simp))))))
  go_wp2_with fail
  go_cut [67] (fun s wx => s = .bool false ∧ KBM w w2.heap.size (bC t l b r) (bC t' l' b' r') (sC p q) (bC x y u v) wx)
  case first =>
    cases em
    · have hi := HI.out.2 rfl
      cases ia
      · have HIm' := HIm
        rw [show im = false from by rw [hi]; rfl] at HIm'
        clear hi HIm
        refine wp_region_mix_lit (by kernel_rfl) [(1, .call (.bool false)), (6, .call (.bool false)), (9, .call (.bool false)), (19, .call (.bool false))] (by kernel_rfl) (by kernel_rfl) (by kernel_rfl) (by rfl) (by simp [apartK] <;> omega) (by simp [startK]) (by simp [stabK]) (⟨fun _ => undef, by simp [okK]⟩) (fun β hβ => ?_)
        repeat (
          refine lex_val (v := ?_) rfl rfl (fun w' hf => ?_) ?_
          rotate_left
          · obtain ⟨⟨c0, c1, c2, c3, _⟩, ⟨d0, d1, d2, d3, _⟩, ⟨f0, f1, _⟩, g0, g1, g2, g3, _⟩ := HC.out w' hf.only; go_simp
            try rfl
          try simp only [Act.put, List.setIfInBounds_toArray, List.set_cons_zero, List.set_cons_succ])
        refine lex_call (f := 13) (args := ?_) rfl rfl (fun w' hf => ?_) (fun w' hf => ?_) ?_
        rotate_left
        · go_simp
          try rfl
        · exact HEm.out w'
        try simp only [Act.put, List.setIfInBounds_toArray, List.set_cons_zero, List.set_cons_succ]
        repeat (
          refine lex_val (v := ?_) rfl rfl (fun w' hf => ?_) ?_
          rotate_left
          · obtain ⟨⟨c0, c1, c2, c3, _⟩, ⟨d0, d1, d2, d3, _⟩, ⟨f0, f1, _⟩, g0, g1, g2, g3, _⟩ := HC.out w' hf.only; go_simp
            try rfl
          try simp only [Act.put, List.setIfInBounds_toArray, List.set_cons_zero, List.set_cons_succ])
        refine lex_call (f := 15) (args := ?_) rfl rfl (fun w' hf => ?_) (fun w' hf => ?_) ?_
        rotate_left
        · go_simp
          try rfl
        · exact HIm'.out w'
        try simp only [Act.put, List.setIfInBounds_toArray, List.set_cons_zero, List.set_cons_succ]
        repeat (
          refine lex_val (v := ?_) rfl rfl (fun w' hf => ?_) ?_
          rotate_left
          · obtain ⟨⟨c0, c1, c2, c3, _⟩, ⟨d0, d1, d2, d3, _⟩, ⟨f0, f1, _⟩, g0, g1, g2, g3, _⟩ := HC.out w' hf.only; go_simp
            try rfl
          try simp only [Act.put, List.setIfInBounds_toArray, List.set_cons_zero, List.set_cons_succ])
        refine lex_call (f := 15) (args := ?_) rfl rfl (fun w' hf => ?_) (fun w' hf => ?_) ?_
        rotate_left
        · go_simp
          try rfl
        · exact HIa.out w'
        try simp only [Act.put, List.setIfInBounds_toArray, List.set_cons_zero, List.set_cons_succ]
        repeat (
          refine lex_val (v := ?_) rfl rfl (fun w' hf => ?_) ?_
          rotate_left
          · obtain ⟨⟨c0, c1, c2, c3, _⟩, ⟨d0, d1, d2, d3, _⟩, ⟨f0, f1, _⟩, g0, g1, g2, g3, _⟩ := HC.out w' hf.only; go_simp
            try rfl
          try simp only [Act.put, List.setIfInBounds_toArray, List.set_cons_zero, List.set_cons_succ])
        repeat (
          refine lex_skip rfl rfl ?_
          try simp only [Act.put, List.setIfInBounds_toArray, List.set_cons_zero, List.set_cons_succ])
        repeat (
          refine lex_val (v := ?_) rfl rfl (fun w' hf => ?_) ?_
          rotate_left
          · obtain ⟨⟨c0, c1, c2, c3, _⟩, ⟨d0, d1, d2, d3, _⟩, ⟨f0, f1, _⟩, g0, g1, g2, g3, _⟩ := HC.out w' hf.only; go_simp
            try rfl
          try simp only [Act.put, List.setIfInBounds_toArray, List.set_cons_zero, List.set_cons_succ])
        refine lex_call (f := 13) (args := ?_) rfl rfl (fun w' hf => ?_) (fun w' hf => ?_) ?_
        rotate_left
        · go_simp
          try rfl
        · exact HEm.out w'
        try simp only [Act.put, List.setIfInBounds_toArray, List.set_cons_zero, List.set_cons_succ]
        repeat (
          refine lex_val (v := ?_) rfl rfl (fun w' hf => ?_) ?_
          rotate_left
          · obtain ⟨⟨c0, c1, c2, c3, _⟩, ⟨d0, d1, d2, d3, _⟩, ⟨f0, f1, _⟩, g0, g1, g2, g3, _⟩ := HC.out w' hf.only; go_simp
            try rfl
          try simp only [Act.put, List.setIfInBounds_toArray, List.set_cons_zero, List.set_cons_succ])
        repeat (
          refine lex_skip rfl rfl ?_
          try simp only [Act.put, List.setIfInBounds_toArray, List.set_cons_zero, List.set_cons_succ])
        repeat (
          refine lex_val (v := ?_) rfl rfl (fun w' hf => ?_) ?_
          rotate_left
          · obtain ⟨⟨c0, c1, c2, c3, _⟩, ⟨d0, d1, d2, d3, _⟩, ⟨f0, f1, _⟩, g0, g1, g2, g3, _⟩ := HC.out w' hf.only; go_simp
            try rfl
          try simp only [Act.put, List.setIfInBounds_toArray, List.set_cons_zero, List.set_cons_succ])
        repeat (
          refine lex_skip rfl rfl ?_
          try simp only [Act.put, List.setIfInBounds_toArray, List.set_cons_zero, List.set_cons_succ])
        repeat (
          refine lex_val (v := ?_) rfl rfl (fun w' hf => ?_) ?_
          rotate_left
          · obtain ⟨⟨c0, c1, c2, c3, _⟩, ⟨d0, d1, d2, d3, _⟩, ⟨f0, f1, _⟩, g0, g1, g2, g3, _⟩ := HC.out w' hf.only; go_simp
            try rfl
          try simp only [Act.put, List.setIfInBounds_toArray, List.set_cons_zero, List.set_cons_succ])
        refine lex_nil fun w4 he => ?_
        go_wp2_with fail
        go_meet
        exact ⟨rfl, KBM.next HK3.out he.only.below0⟩
      · have HIm' := HIm
        rw [show im = ib from by rw [hi]; rfl] at HIm'
        clear hi HIm
        refine wp_region_mix_lit (by kernel_rfl) [(1, .call (.bool false)), (6, .call (.bool ib)), (9, .call (.bool true)), (13, .call (.bool ib)), (19, .call (.bool false))] (by kernel_rfl) (by kernel_rfl) (by kernel_rfl) (by rfl) (by simp [apartK] <;> omega) (by simp [startK]) (by simp [stabK]) (⟨fun _ => undef, by simp [okK]⟩) (fun β hβ => ?_)
        repeat (
          refine lex_val (v := ?_) rfl rfl (fun w' hf => ?_) ?_
          rotate_left
          · obtain ⟨⟨c0, c1, c2, c3, _⟩, ⟨d0, d1, d2, d3, _⟩, ⟨f0, f1, _⟩, g0, g1, g2, g3, _⟩ := HC.out w' hf.only; go_simp
            try rfl
          try simp only [Act.put, List.setIfInBounds_toArray, List.set_cons_zero, List.set_cons_succ])
        refine lex_call (f := 13) (args := ?_) rfl rfl (fun w' hf => ?_) (fun w' hf => ?_) ?_
        rotate_left
        · go_simp
          try rfl
        · exact HEm.out w'
        try simp only [Act.put, List.setIfInBounds_toArray, List.set_cons_zero, List.set_cons_succ]
        repeat (
          refine lex_val (v := ?_) rfl rfl (fun w' hf => ?_) ?_
          rotate_left
          · obtain ⟨⟨c0, c1, c2, c3, _⟩, ⟨d0, d1, d2, d3, _⟩, ⟨f0, f1, _⟩, g0, g1, g2, g3, _⟩ := HC.out w' hf.only; go_simp
            try rfl
          try simp only [Act.put, List.setIfInBounds_toArray, List.set_cons_zero, List.set_cons_succ])
        refine lex_call (f := 15) (args := ?_) rfl rfl (fun w' hf => ?_) (fun w' hf => ?_) ?_
        rotate_left
        · go_simp
          try rfl
        · exact HIm'.out w'
        try simp only [Act.put, List.setIfInBounds_toArray, List.set_cons_zero, List.set_cons_succ]
        repeat (
          refine lex_val (v := ?_) rfl rfl (fun w' hf => ?_) ?_
          rotate_left
          · obtain ⟨⟨c0, c1, c2, c3, _⟩, ⟨d0, d1, d2, d3, _⟩, ⟨f0, f1, _⟩, g0, g1, g2, g3, _⟩ := HC.out w' hf.only; go_simp
            try rfl
          try simp only [Act.put, List.setIfInBounds_toArray, List.set_cons_zero, List.set_cons_succ])
        refine lex_call (f := 15) (args := ?_) rfl rfl (fun w' hf => ?_) (fun w' hf => ?_) ?_
        rotate_left
        · go_simp
          try rfl
        · exact HIa.out w'
        try simp only [Act.put, List.setIfInBounds_toArray, List.set_cons_zero, List.set_cons_succ]
        repeat (
          refine lex_val (v := ?_) rfl rfl (fun w' hf => ?_) ?_
          rotate_left
          · obtain ⟨⟨c0, c1, c2, c3, _⟩, ⟨d0, d1, d2, d3, _⟩, ⟨f0, f1, _⟩, g0, g1, g2, g3, _⟩ := HC.out w' hf.only; go_simp
            try rfl
          try simp only [Act.put, List.setIfInBounds_toArray, List.set_cons_zero, List.set_cons_succ])
        refine lex_call (f := 15) (args := ?_) rfl rfl (fun w' hf => ?_) (fun w' hf => ?_) ?_
        rotate_left
        · go_simp
          try rfl
        · exact HIb.out w'
        try simp only [Act.put, List.setIfInBounds_toArray, List.set_cons_zero, List.set_cons_succ]
        repeat (
          refine lex_val (v := ?_) rfl rfl (fun w' hf => ?_) ?_
          rotate_left
          · obtain ⟨⟨c0, c1, c2, c3, _⟩, ⟨d0, d1, d2, d3, _⟩, ⟨f0, f1, _⟩, g0, g1, g2, g3, _⟩ := HC.out w' hf.only; go_simp
            try rfl
          try simp only [Act.put, List.setIfInBounds_toArray, List.set_cons_zero, List.set_cons_succ])
        refine lex_call (f := 13) (args := ?_) rfl rfl (fun w' hf => ?_) (fun w' hf => ?_) ?_
        rotate_left
        · go_simp
          try rfl
        · exact HEm.out w'
        try simp only [Act.put, List.setIfInBounds_toArray, List.set_cons_zero, List.set_cons_succ]
        repeat (
          refine lex_val (v := ?_) rfl rfl (fun w' hf => ?_) ?_
          rotate_left
          · obtain ⟨⟨c0, c1, c2, c3, _⟩, ⟨d0, d1, d2, d3, _⟩, ⟨f0, f1, _⟩, g0, g1, g2, g3, _⟩ := HC.out w' hf.only; go_simp
            try rfl
          try simp only [Act.put, List.setIfInBounds_toArray, List.set_cons_zero, List.set_cons_succ])
        repeat (
          refine lex_skip rfl rfl ?_
          try simp only [Act.put, List.setIfInBounds_toArray, List.set_cons_zero, List.set_cons_succ])
        repeat (
          refine lex_val (v := ?_) rfl rfl (fun w' hf => ?_) ?_
          rotate_left
          · obtain ⟨⟨c0, c1, c2, c3, _⟩, ⟨d0, d1, d2, d3, _⟩, ⟨f0, f1, _⟩, g0, g1, g2, g3, _⟩ := HC.out w' hf.only; go_simp
            try rfl
          try simp only [Act.put, List.setIfInBounds_toArray, List.set_cons_zero, List.set_cons_succ])
        repeat (
          refine lex_skip rfl rfl ?_
          try simp only [Act.put, List.setIfInBounds_toArray, List.set_cons_zero, List.set_cons_succ])
        repeat (
          refine lex_val (v := ?_) rfl rfl (fun w' hf => ?_) ?_
          rotate_left
          · obtain ⟨⟨c0, c1, c2, c3, _⟩, ⟨d0, d1, d2, d3, _⟩, ⟨f0, f1, _⟩, g0, g1, g2, g3, _⟩ := HC.out w' hf.only; go_simp
            try rfl
          try simp only [Act.put, List.setIfInBounds_toArray, List.set_cons_zero, List.set_cons_succ])
        refine lex_nil fun w4 he => ?_
        go_wp2_with fail
        go_meet
        exact ⟨rfl, KBM.next HK3.out he.only.below0⟩
    · have hi := HI.out.1 rfl
      clear HIm
      cases ia
      · clear hi
        refine wp_region_mix_lit (by kernel_rfl) [(1, .call (.bool true)), (19, .call (.bool true)), (23, .call (.bool false))] (by kernel_rfl) (by kernel_rfl) (by kernel_rfl) (by rfl) (by simp [apartK] <;> omega) (by simp [startK]) (by simp [stabK]) (⟨fun _ => undef, by simp [okK]⟩) (fun β hβ => ?_)
        repeat (
          refine lex_val (v := ?_) rfl rfl (fun w' hf => ?_) ?_
          rotate_left
          · obtain ⟨⟨c0, c1, c2, c3, _⟩, ⟨d0, d1, d2, d3, _⟩, ⟨f0, f1, _⟩, g0, g1, g2, g3, _⟩ := HC.out w' hf.only; go_simp
            try rfl
          try simp only [Act.put, List.setIfInBounds_toArray, List.set_cons_zero, List.set_cons_succ])
        refine lex_call (f := 13) (args := ?_) rfl rfl (fun w' hf => ?_) (fun w' hf => ?_) ?_
        rotate_left
        · go_simp
          try rfl
        · exact HEm.out w'
        try simp only [Act.put, List.setIfInBounds_toArray, List.set_cons_zero, List.set_cons_succ]
        repeat (
          refine lex_val (v := ?_) rfl rfl (fun w' hf => ?_) ?_
          rotate_left
          · obtain ⟨⟨c0, c1, c2, c3, _⟩, ⟨d0, d1, d2, d3, _⟩, ⟨f0, f1, _⟩, g0, g1, g2, g3, _⟩ := HC.out w' hf.only; go_simp
            try rfl
          try simp only [Act.put, List.setIfInBounds_toArray, List.set_cons_zero, List.set_cons_succ])
        repeat (
          refine lex_skip rfl rfl ?_
          try simp only [Act.put, List.setIfInBounds_toArray, List.set_cons_zero, List.set_cons_succ])
        repeat (
          refine lex_val (v := ?_) rfl rfl (fun w' hf => ?_) ?_
          rotate_left
          · obtain ⟨⟨c0, c1, c2, c3, _⟩, ⟨d0, d1, d2, d3, _⟩, ⟨f0, f1, _⟩, g0, g1, g2, g3, _⟩ := HC.out w' hf.only; go_simp
            try rfl
          try simp only [Act.put, List.setIfInBounds_toArray, List.set_cons_zero, List.set_cons_succ])
        refine lex_call (f := 13) (args := ?_) rfl rfl (fun w' hf => ?_) (fun w' hf => ?_) ?_
        rotate_left
        · go_simp
          try rfl
        · exact HEm.out w'
        try simp only [Act.put, List.setIfInBounds_toArray, List.set_cons_zero, List.set_cons_succ]
        repeat (
          refine lex_val (v := ?_) rfl rfl (fun w' hf => ?_) ?_
          rotate_left
          · obtain ⟨⟨c0, c1, c2, c3, _⟩, ⟨d0, d1, d2, d3, _⟩, ⟨f0, f1, _⟩, g0, g1, g2, g3, _⟩ := HC.out w' hf.only; go_simp
            try rfl
          try simp only [Act.put, List.setIfInBounds_toArray, List.set_cons_zero, List.set_cons_succ])
        refine lex_call (f := 15) (args := ?_) rfl rfl (fun w' hf => ?_) (fun w' hf => ?_) ?_
        rotate_left
        · go_simp
          try rfl
        · exact HIa.out w'
        try simp only [Act.put, List.setIfInBounds_toArray, List.set_cons_zero, List.set_cons_succ]
        repeat (
          refine lex_val (v := ?_) rfl rfl (fun w' hf => ?_) ?_
          rotate_left
          · obtain ⟨⟨c0, c1, c2, c3, _⟩, ⟨d0, d1, d2, d3, _⟩, ⟨f0, f1, _⟩, g0, g1, g2, g3, _⟩ := HC.out w' hf.only; go_simp
            try rfl
          try simp only [Act.put, List.setIfInBounds_toArray, List.set_cons_zero, List.set_cons_succ])
        repeat (
          refine lex_skip rfl rfl ?_
          try simp only [Act.put, List.setIfInBounds_toArray, List.set_cons_zero, List.set_cons_succ])
        repeat (
          refine lex_val (v := ?_) rfl rfl (fun w' hf => ?_) ?_
          rotate_left
          · obtain ⟨⟨c0, c1, c2, c3, _⟩, ⟨d0, d1, d2, d3, _⟩, ⟨f0, f1, _⟩, g0, g1, g2, g3, _⟩ := HC.out w' hf.only; go_simp
            try rfl
          try simp only [Act.put, List.setIfInBounds_toArray, List.set_cons_zero, List.set_cons_succ])
        refine lex_nil fun w4 he => ?_
        go_wp2_with fail
        go_meet
        exact ⟨rfl, KBM.next HK3.out he.only.below0⟩
      · obtain rfl : ib = false := by simpa using hi
        clear hi
        refine wp_region_mix_lit (by kernel_rfl) [(1, .call (.bool true)), (19, .call (.bool true)), (23, .call (.bool true)), (28, .call (.bool false))] (by kernel_rfl) (by kernel_rfl) (by kernel_rfl) (by rfl) (by simp [apartK] <;> omega) (by simp [startK]) (by simp [stabK]) (⟨fun _ => undef, by simp [okK]⟩) (fun β hβ => ?_)
        repeat (
          refine lex_val (v := ?_) rfl rfl (fun w' hf => ?_) ?_
          rotate_left
          · obtain ⟨⟨c0, c1, c2, c3, _⟩, ⟨d0, d1, d2, d3, _⟩, ⟨f0, f1, _⟩, g0, g1, g2, g3, _⟩ := HC.out w' hf.only; go_simp
            try rfl
          try simp only [Act.put, List.setIfInBounds_toArray, List.set_cons_zero, List.set_cons_succ])
        refine lex_call (f := 13) (args := ?_) rfl rfl (fun w' hf => ?_) (fun w' hf => ?_) ?_
        rotate_left
        · go_simp
          try rfl
        · exact HEm.out w'
        try simp only [Act.put, List.setIfInBounds_toArray, List.set_cons_zero, List.set_cons_succ]
        repeat (
          refine lex_val (v := ?_) rfl rfl (fun w' hf => ?_) ?_
          rotate_left
          · obtain ⟨⟨c0, c1, c2, c3, _⟩, ⟨d0, d1, d2, d3, _⟩, ⟨f0, f1, _⟩, g0, g1, g2, g3, _⟩ := HC.out w' hf.only; go_simp
            try rfl
          try simp only [Act.put, List.setIfInBounds_toArray, List.set_cons_zero, List.set_cons_succ])
        repeat (
          refine lex_skip rfl rfl ?_
          try simp only [Act.put, List.setIfInBounds_toArray, List.set_cons_zero, List.set_cons_succ])
        repeat (
          refine lex_val (v := ?_) rfl rfl (fun w' hf => ?_) ?_
          rotate_left
          · obtain ⟨⟨c0, c1, c2, c3, _⟩, ⟨d0, d1, d2, d3, _⟩, ⟨f0, f1, _⟩, g0, g1, g2, g3, _⟩ := HC.out w' hf.only; go_simp
            try rfl
          try simp only [Act.put, List.setIfInBounds_toArray, List.set_cons_zero, List.set_cons_succ])
        refine lex_call (f := 13) (args := ?_) rfl rfl (fun w' hf => ?_) (fun w' hf => ?_) ?_
        rotate_left
        · go_simp
          try rfl
        · exact HEm.out w'
        try simp only [Act.put, List.setIfInBounds_toArray, List.set_cons_zero, List.set_cons_succ]
        repeat (
          refine lex_val (v := ?_) rfl rfl (fun w' hf => ?_) ?_
          rotate_left
          · obtain ⟨⟨c0, c1, c2, c3, _⟩, ⟨d0, d1, d2, d3, _⟩, ⟨f0, f1, _⟩, g0, g1, g2, g3, _⟩ := HC.out w' hf.only; go_simp
            try rfl
          try simp only [Act.put, List.setIfInBounds_toArray, List.set_cons_zero, List.set_cons_succ])
        refine lex_call (f := 15) (args := ?_) rfl rfl (fun w' hf => ?_) (fun w' hf => ?_) ?_
        rotate_left
        · go_simp
          try rfl
        · exact HIa.out w'
        try simp only [Act.put, List.setIfInBounds_toArray, List.set_cons_zero, List.set_cons_succ]
        repeat (
          refine lex_val (v := ?_) rfl rfl (fun w' hf => ?_) ?_
          rotate_left
          · obtain ⟨⟨c0, c1, c2, c3, _⟩, ⟨d0, d1, d2, d3, _⟩, ⟨f0, f1, _⟩, g0, g1, g2, g3, _⟩ := HC.out w' hf.only; go_simp
            try rfl
          try simp only [Act.put, List.setIfInBounds_toArray, List.set_cons_zero, List.set_cons_succ])
        refine lex_call (f := 15) (args := ?_) rfl rfl (fun w' hf => ?_) (fun w' hf => ?_) ?_
        rotate_left
        · go_simp
          try rfl
        · exact HIb.out w'
        try simp only [Act.put, List.setIfInBounds_toArray, List.set_cons_zero, List.set_cons_succ]
        repeat (
          refine lex_val (v := ?_) rfl rfl (fun w' hf => ?_) ?_
          rotate_left
          · obtain ⟨⟨c0, c1, c2, c3, _⟩, ⟨d0, d1, d2, d3, _⟩, ⟨f0, f1, _⟩, g0, g1, g2, g3, _⟩ := HC.out w' hf.only; go_simp
            try rfl
          try simp only [Act.put, List.setIfInBounds_toArray, List.set_cons_zero, List.set_cons_succ])
        refine lex_nil fun w4 he => ?_
        go_wp2_with fail
        go_meet
        exact ⟨rfl, KBM.next HK3.out he.only.below0⟩
  case rest =>
    obtain ⟨rfl, hk⟩ := hcut
    clear HC HK3 HI HEm HIa HIb HIm
    have HK4 := Lib.hid hk
    clear hk
    have HC := Lib.hid (fun w' (h : Only [] wc w') => And.intro (blk4 (h.blk HK4.out.1 (by simp))) (And.intro (blk4 (h.blk HK4.out.2.1 (by simp))) (And.intro (blk2 (h.blk HK4.out.2.2.1 (by simp))) (blk4 (h.blk HK4.out.2.2.2.1 (by simp))))))
    go_wp2_with fail
    have hq3 : ∀ a b : Int, ∀ W, (binOp .eql 23 (.agg #[.int .i64 0, .int .i64 0, .int .i64 a, .int .i64 b]) (.agg #[.int .i64 0, .int .i64 0, .int .i64 a, .int .i64 b])).run Try.prog W = .ok (.bool true) W := fun a b W => by
      have := eql_box W 0 0 a b 0 0 a b
      rwa [show eqB4 0 0 a b 0 0 a b = true from by unfold eqB4; simp] at this
    have HQ3 := Lib.hid hq3
    clear hq3
    rcases HPC.out with ⟨hp1, hp2⟩ | ⟨hp1, hp2⟩ <;> rcases HQC.out with ⟨hp3, hp4⟩ | ⟨hp3, hp4⟩
    all_goals
      rw [hp2, hp4] at HW
      clear HPC HQC hp2 hp4
      try (have hp0 : (p < 0) = False := eq_false (by omega))
      try (have hq0 : (q < 0) = False := eq_false (by omega))
    · skip
      refine wp_region_mix_lit (by kernel_rfl) [(2, .call (.agg #[.int .i64 x, .int .i64 y, .int .i64 u, .int .i64 v])), (8, .call (.agg #[.int .i64 x, .int .i64 y, .int .i64 u, .int .i64 v])), (17, .call (.agg #[.int .i64 0, .int .i64 0, .int .i64 0, .int .i64 0]))] (by kernel_rfl) (by kernel_rfl) (by kernel_rfl) (by rfl) (by simp [apartK] <;> omega) (by simp [startK]) (by simp [stabK]) (⟨fun _ => undef, by simp [okK]⟩) (fun β hβ => ?_)
      repeat (
        refine lex_val (v := ?_) rfl rfl (fun w' hf => ?_) ?_
        rotate_left
        · obtain ⟨⟨c0, c1, c2, c3, _⟩, ⟨d0, d1, d2, d3, _⟩, ⟨f0, f1, _⟩, g0, g1, g2, g3, _⟩ := HC.out w' hf.only; have hq := HQ2.out; have hg := HG.out; go_simp
          try rfl
        try simp only [Act.put, List.setIfInBounds_toArray, List.set_cons_zero, List.set_cons_succ])
      refine lex_call (f := 11) (args := ?_) rfl rfl (fun w' hf => ?_) (fun w' hf => ?_) ?_
      rotate_left
      · go_simp
        try rfl
      · exact HM2.out w'
      try simp only [Act.put, List.setIfInBounds_toArray, List.set_cons_zero, List.set_cons_succ]
      repeat (
        refine lex_val (v := ?_) rfl rfl (fun w' hf => ?_) ?_
        rotate_left
        · obtain ⟨⟨c0, c1, c2, c3, _⟩, ⟨d0, d1, d2, d3, _⟩, ⟨f0, f1, _⟩, g0, g1, g2, g3, _⟩ := HC.out w' hf.only; have hq := HQ2.out; have hg := HG.out; go_simp
          try rfl
        try simp only [Act.put, List.setIfInBounds_toArray, List.set_cons_zero, List.set_cons_succ])
      refine lex_call (f := 11) (args := ?_) rfl rfl (fun w' hf => ?_) (fun w' hf => ?_) ?_
      rotate_left
      · go_simp
        try rfl
      · exact HM3.out w'
      try simp only [Act.put, List.setIfInBounds_toArray, List.set_cons_zero, List.set_cons_succ]
      repeat (
        refine lex_val (v := ?_) rfl rfl (fun w' hf => ?_) ?_
        rotate_left
        · obtain ⟨⟨c0, c1, c2, c3, _⟩, ⟨d0, d1, d2, d3, _⟩, ⟨f0, f1, _⟩, g0, g1, g2, g3, _⟩ := HC.out w' hf.only; have hq := HQ2.out; have hg := HG.out; go_simp
          try rfl
        try simp only [Act.put, List.setIfInBounds_toArray, List.set_cons_zero, List.set_cons_succ])
      refine lex_call (f := 17) (args := ?_) rfl rfl (fun w' hf => ?_) (fun w' hf => ?_) ?_
      rotate_left
      · go_simp
        try rfl
      · exact HW.out w'
      try simp only [Act.put, List.setIfInBounds_toArray, List.set_cons_zero, List.set_cons_succ]
      repeat (
        refine lex_val (v := ?_) rfl rfl (fun w' hf => ?_) ?_
        rotate_left
        · obtain ⟨⟨c0, c1, c2, c3, _⟩, ⟨d0, d1, d2, d3, _⟩, ⟨f0, f1, _⟩, g0, g1, g2, g3, _⟩ := HC.out w' hf.only; have hq := HQ3.out; have hg := HG.out; go_simp
          try rfl
        try simp only [Act.put, List.setIfInBounds_toArray, List.set_cons_zero, List.set_cons_succ])
      refine lex_nil fun w4 he => ?_
      have HB := Lib.hid (bstep HK4.out.2.2.2.2 he.only.below0)
      clear he
      go_wp2_with fail
      go_ret
      exact ⟨rfl, HB.out⟩
    · skip
      refine wp_region_mix_lit (by kernel_rfl) [(2, .call (.agg #[.int .i64 x, .int .i64 y, .int .i64 u, .int .i64 v])), (8, .call (.agg #[.int .i64 x, .int .i64 y, .int .i64 u, .int .i64 v])), (17, .call (.agg #[.int .i64 0, .int .i64 0, .int .i64 0, .int .i64 q]))] (by kernel_rfl) (by kernel_rfl) (by kernel_rfl) (by rfl) (by simp [apartK] <;> omega) (by simp [startK]) (by simp [stabK]) (⟨fun _ => undef, by simp [okK]⟩) (fun β hβ => ?_)
      repeat (
        refine lex_val (v := ?_) rfl rfl (fun w' hf => ?_) ?_
        rotate_left
        · obtain ⟨⟨c0, c1, c2, c3, _⟩, ⟨d0, d1, d2, d3, _⟩, ⟨f0, f1, _⟩, g0, g1, g2, g3, _⟩ := HC.out w' hf.only; have hq := HQ2.out; have hg := HG.out; go_simp
          try rfl
        try simp only [Act.put, List.setIfInBounds_toArray, List.set_cons_zero, List.set_cons_succ])
      refine lex_call (f := 11) (args := ?_) rfl rfl (fun w' hf => ?_) (fun w' hf => ?_) ?_
      rotate_left
      · go_simp
        try rfl
      · exact HM2.out w'
      try simp only [Act.put, List.setIfInBounds_toArray, List.set_cons_zero, List.set_cons_succ]
      repeat (
        refine lex_val (v := ?_) rfl rfl (fun w' hf => ?_) ?_
        rotate_left
        · obtain ⟨⟨c0, c1, c2, c3, _⟩, ⟨d0, d1, d2, d3, _⟩, ⟨f0, f1, _⟩, g0, g1, g2, g3, _⟩ := HC.out w' hf.only; have hq := HQ2.out; have hg := HG.out; go_simp
          try rfl
        try simp only [Act.put, List.setIfInBounds_toArray, List.set_cons_zero, List.set_cons_succ])
      refine lex_call (f := 11) (args := ?_) rfl rfl (fun w' hf => ?_) (fun w' hf => ?_) ?_
      rotate_left
      · go_simp
        try rfl
      · exact HM3.out w'
      try simp only [Act.put, List.setIfInBounds_toArray, List.set_cons_zero, List.set_cons_succ]
      repeat (
        refine lex_val (v := ?_) rfl rfl (fun w' hf => ?_) ?_
        rotate_left
        · obtain ⟨⟨c0, c1, c2, c3, _⟩, ⟨d0, d1, d2, d3, _⟩, ⟨f0, f1, _⟩, g0, g1, g2, g3, _⟩ := HC.out w' hf.only; have hq := HQ2.out; have hg := HG.out; go_simp
          try rfl
        try simp only [Act.put, List.setIfInBounds_toArray, List.set_cons_zero, List.set_cons_succ])
      refine lex_call (f := 17) (args := ?_) rfl rfl (fun w' hf => ?_) (fun w' hf => ?_) ?_
      rotate_left
      · go_simp
        try rfl
      · exact HW.out w'
      try simp only [Act.put, List.setIfInBounds_toArray, List.set_cons_zero, List.set_cons_succ]
      repeat (
        refine lex_val (v := ?_) rfl rfl (fun w' hf => ?_) ?_
        rotate_left
        · obtain ⟨⟨c0, c1, c2, c3, _⟩, ⟨d0, d1, d2, d3, _⟩, ⟨f0, f1, _⟩, g0, g1, g2, g3, _⟩ := HC.out w' hf.only; have hq := HQ3.out; have hg := HG.out; go_simp
          try rfl
        try simp only [Act.put, List.setIfInBounds_toArray, List.set_cons_zero, List.set_cons_succ])
      refine lex_nil fun w4 he => ?_
      have HB := Lib.hid (bstep HK4.out.2.2.2.2 he.only.below0)
      clear he
      go_wp2_with fail
      go_ret
      exact ⟨rfl, HB.out⟩
    · skip
      refine wp_region_mix_lit (by kernel_rfl) [(2, .call (.agg #[.int .i64 x, .int .i64 y, .int .i64 u, .int .i64 v])), (8, .call (.agg #[.int .i64 x, .int .i64 y, .int .i64 u, .int .i64 v])), (17, .call (.agg #[.int .i64 0, .int .i64 0, .int .i64 p, .int .i64 0]))] (by kernel_rfl) (by kernel_rfl) (by kernel_rfl) (by rfl) (by simp [apartK] <;> omega) (by simp [startK]) (by simp [stabK]) (⟨fun _ => undef, by simp [okK]⟩) (fun β hβ => ?_)
      repeat (
        refine lex_val (v := ?_) rfl rfl (fun w' hf => ?_) ?_
        rotate_left
        · obtain ⟨⟨c0, c1, c2, c3, _⟩, ⟨d0, d1, d2, d3, _⟩, ⟨f0, f1, _⟩, g0, g1, g2, g3, _⟩ := HC.out w' hf.only; have hq := HQ2.out; have hg := HG.out; go_simp
          try rfl
        try simp only [Act.put, List.setIfInBounds_toArray, List.set_cons_zero, List.set_cons_succ])
      refine lex_call (f := 11) (args := ?_) rfl rfl (fun w' hf => ?_) (fun w' hf => ?_) ?_
      rotate_left
      · go_simp
        try rfl
      · exact HM2.out w'
      try simp only [Act.put, List.setIfInBounds_toArray, List.set_cons_zero, List.set_cons_succ]
      repeat (
        refine lex_val (v := ?_) rfl rfl (fun w' hf => ?_) ?_
        rotate_left
        · obtain ⟨⟨c0, c1, c2, c3, _⟩, ⟨d0, d1, d2, d3, _⟩, ⟨f0, f1, _⟩, g0, g1, g2, g3, _⟩ := HC.out w' hf.only; have hq := HQ2.out; have hg := HG.out; go_simp
          try rfl
        try simp only [Act.put, List.setIfInBounds_toArray, List.set_cons_zero, List.set_cons_succ])
      refine lex_call (f := 11) (args := ?_) rfl rfl (fun w' hf => ?_) (fun w' hf => ?_) ?_
      rotate_left
      · go_simp
        try rfl
      · exact HM3.out w'
      try simp only [Act.put, List.setIfInBounds_toArray, List.set_cons_zero, List.set_cons_succ]
      repeat (
        refine lex_val (v := ?_) rfl rfl (fun w' hf => ?_) ?_
        rotate_left
        · obtain ⟨⟨c0, c1, c2, c3, _⟩, ⟨d0, d1, d2, d3, _⟩, ⟨f0, f1, _⟩, g0, g1, g2, g3, _⟩ := HC.out w' hf.only; have hq := HQ2.out; have hg := HG.out; go_simp
          try rfl
        try simp only [Act.put, List.setIfInBounds_toArray, List.set_cons_zero, List.set_cons_succ])
      refine lex_call (f := 17) (args := ?_) rfl rfl (fun w' hf => ?_) (fun w' hf => ?_) ?_
      rotate_left
      · go_simp
        try rfl
      · exact HW.out w'
      try simp only [Act.put, List.setIfInBounds_toArray, List.set_cons_zero, List.set_cons_succ]
      repeat (
        refine lex_val (v := ?_) rfl rfl (fun w' hf => ?_) ?_
        rotate_left
        · obtain ⟨⟨c0, c1, c2, c3, _⟩, ⟨d0, d1, d2, d3, _⟩, ⟨f0, f1, _⟩, g0, g1, g2, g3, _⟩ := HC.out w' hf.only; have hq := HQ3.out; have hg := HG.out; go_simp
          try rfl
        try simp only [Act.put, List.setIfInBounds_toArray, List.set_cons_zero, List.set_cons_succ])
      refine lex_nil fun w4 he => ?_
      have HB := Lib.hid (bstep HK4.out.2.2.2.2 he.only.below0)
      clear he
      go_wp2_with fail
      go_ret
      exact ⟨rfl, HB.out⟩
    · skip
      refine wp_region_mix_lit (by kernel_rfl) [(2, .call (.agg #[.int .i64 x, .int .i64 y, .int .i64 u, .int .i64 v])), (8, .call (.agg #[.int .i64 x, .int .i64 y, .int .i64 u, .int .i64 v])), (17, .call (.agg #[.int .i64 0, .int .i64 0, .int .i64 p, .int .i64 q]))] (by kernel_rfl) (by kernel_rfl) (by kernel_rfl) (by rfl) (by simp [apartK] <;> omega) (by simp [startK]) (by simp [stabK]) (⟨fun _ => undef, by simp [okK]⟩) (fun β hβ => ?_)
      repeat (
        refine lex_val (v := ?_) rfl rfl (fun w' hf => ?_) ?_
        rotate_left
        · obtain ⟨⟨c0, c1, c2, c3, _⟩, ⟨d0, d1, d2, d3, _⟩, ⟨f0, f1, _⟩, g0, g1, g2, g3, _⟩ := HC.out w' hf.only; have hq := HQ2.out; have hg := HG.out; go_simp
          try rfl
        try simp only [Act.put, List.setIfInBounds_toArray, List.set_cons_zero, List.set_cons_succ])
      refine lex_call (f := 11) (args := ?_) rfl rfl (fun w' hf => ?_) (fun w' hf => ?_) ?_
      rotate_left
      · go_simp
        try rfl
      · exact HM2.out w'
      try simp only [Act.put, List.setIfInBounds_toArray, List.set_cons_zero, List.set_cons_succ]
      repeat (
        refine lex_val (v := ?_) rfl rfl (fun w' hf => ?_) ?_
        rotate_left
        · obtain ⟨⟨c0, c1, c2, c3, _⟩, ⟨d0, d1, d2, d3, _⟩, ⟨f0, f1, _⟩, g0, g1, g2, g3, _⟩ := HC.out w' hf.only; have hq := HQ2.out; have hg := HG.out; go_simp
          try rfl
        try simp only [Act.put, List.setIfInBounds_toArray, List.set_cons_zero, List.set_cons_succ])
      refine lex_call (f := 11) (args := ?_) rfl rfl (fun w' hf => ?_) (fun w' hf => ?_) ?_
      rotate_left
      · go_simp
        try rfl
      · exact HM3.out w'
      try simp only [Act.put, List.setIfInBounds_toArray, List.set_cons_zero, List.set_cons_succ]
      repeat (
        refine lex_val (v := ?_) rfl rfl (fun w' hf => ?_) ?_
        rotate_left
        · obtain ⟨⟨c0, c1, c2, c3, _⟩, ⟨d0, d1, d2, d3, _⟩, ⟨f0, f1, _⟩, g0, g1, g2, g3, _⟩ := HC.out w' hf.only; have hq := HQ2.out; have hg := HG.out; go_simp
          try rfl
        try simp only [Act.put, List.setIfInBounds_toArray, List.set_cons_zero, List.set_cons_succ])
      refine lex_call (f := 17) (args := ?_) rfl rfl (fun w' hf => ?_) (fun w' hf => ?_) ?_
      rotate_left
      · go_simp
        try rfl
      · exact HW.out w'
      try simp only [Act.put, List.setIfInBounds_toArray, List.set_cons_zero, List.set_cons_succ]
      repeat (
        refine lex_val (v := ?_) rfl rfl (fun w' hf => ?_) ?_
        rotate_left
        · obtain ⟨⟨c0, c1, c2, c3, _⟩, ⟨d0, d1, d2, d3, _⟩, ⟨f0, f1, _⟩, g0, g1, g2, g3, _⟩ := HC.out w' hf.only; have hq := HQ3.out; have hg := HG.out; go_simp
          try rfl
        try simp only [Act.put, List.setIfInBounds_toArray, List.set_cons_zero, List.set_cons_succ])
      refine lex_nil fun w4 he => ?_
      have HB := Lib.hid (bstep HK4.out.2.2.2.2 he.only.below0)
      clear he
      go_wp2_with fail
      go_ret
      exact ⟨rfl, HB.out⟩

/-- What the walk gives, for every argument and every world that holds the table. -/
theorem contract (H : Type) (enc : TypeId × Value → H) (W : World) (base : Nat) (args : Array Value) (ds gs : List (DataW H)) (before : List MemPlace)
    (hval : ∀ (j : Nat) t v, Try.f3.params[j]? = some t → args[j]? = some v → Value.okWide Try.prog W .any base t v)
    (hW : DataW.Whole enc Try.prog Try.f3.params.toList Rows.boxMeetsSpec.vars false W args.toList ds gs before) (_hL : laidMetH Try.prog Rows.boxMeetsRow.laid W)
    (hreach : (DataW.weightsEach Try.prog (Try.f3.params.toList ++ []) (ds ++ gs)).all (· ≤ reachBytes) = true) :
    Calls Try.prog 3 args W fun e W' => ∃ v, e = .returned v ∧ Rows.boxMeetsSpec.post enc Try.prog Try.f3 false true false false W args v W' := by
  have hW' := hW
  clear _hL
  have hlts : ∀ x ∈ before, x.block < W.heap.size := fun x hx => hW'.lt x hx
  obtain ⟨p, q, hA0, hV, rfl, hfz, hnd⟩ := hW
  have hA : DataW.TrodAll enc Try.prog W 0 (fun _ => true) true Try.f3.params.toList args.toList ds p := hA0
  rw [Try.params3] at hA hval hreach
  obtain ⟨v0, vs0, d0, ds0, pp0, qq0, hargs, rfl, rfl, h0, rr0⟩ := trodAll_cons hA
  obtain ⟨v1, vs1, d1, ds1, pp1, qq1, rfl, rfl, rfl, h1, rr1⟩ := trodAll_cons rr0
  obtain ⟨v2, vs2, d2, ds2, pp2, qq2, rfl, rfl, rfl, h2, rr2⟩ := trodAll_cons rr1
  obtain ⟨rfl, rfl, rfl⟩ := trodAll_nil rr2
  obtain rfl : args = #[v0, v1, v2] := by cases args; simp_all
  obtain ⟨rfl, rfl⟩ := trodVars_none hV
  obtain ⟨t0, l0, b0, r0, rfl⟩ := box_in (hval 0 23 v0 rfl rfl) h0
  obtain ⟨t1, l1, b1, r1, rfl⟩ := box_in (hval 1 23 v1 rfl rfl) h1
  obtain ⟨p2, q2, rfl⟩ := pos_in (hval 2 25 v2 rfl rfl) h2
  clear hA0
  refine (walk t0 l0 b0 r0 t1 l1 b1 r1 p2 q2 W).mono fun e W' ⟨he, hb⟩ => ?_
  subst he
  exact ⟨_, rfl, post_law laidOut (by kernel_rfl) (by kernel_rfl) rfl hW' rfl hb⟩

theorem laid_met (os : Os) : laidMet Try.prog Rows.boxMeetsRow.laid ((laidWorld os).forCall (fun _ _ => 0) ⟨#[], #[Value.agg #[.int .i64 0, .int .i64 0, .int .i64 0, .int .i64 0], Value.agg #[.int .i64 0, .int .i64 0, .int .i64 0, .int .i64 0], Value.agg #[.int .i64 0, .int .i64 0]], []⟩).memory :=
  laidMet_of_run' 8 (by kernel_rfl) (by kernel_rfl)
theorem reads (os : Os) {H : Type} (enc : TypeId × Value → H) : ∃ places, DataW.whole enc Try.prog ((laidWorld os).forCall (fun _ _ => 0) ⟨#[], #[Value.agg #[.int .i64 0, .int .i64 0, .int .i64 0, .int .i64 0], Value.agg #[.int .i64 0, .int .i64 0, .int .i64 0, .int .i64 0], Value.agg #[.int .i64 0, .int .i64 0]], []⟩).memory Try.f3.params.toList Rows.boxMeetsSpec.vars false (#[Value.agg #[.int .i64 0, .int .i64 0, .int .i64 0, .int .i64 0], Value.agg #[.int .i64 0, .int .i64 0, .int .i64 0, .int .i64 0], Value.agg #[.int .i64 0, .int .i64 0]] : Array Value).toList 8 = some ([.agg [.lit (.int .i64 0), .lit (.int .i64 0), .lit (.int .i64 0), .lit (.int .i64 0)], .agg [.lit (.int .i64 0), .lit (.int .i64 0), .lit (.int .i64 0), .lit (.int .i64 0)], .agg [.lit (.int .i64 0), .lit (.int .i64 0)]], [], places) :=
  ⟨[], by kernel_rfl⟩

set_option maxRecDepth 100000 in
theorem lifted (os : Os) (started : os.Started) (H : Type) (enc : TypeId × Value → H) (F : Stop.Interp) :
    ReturnsInHanded {} Try.checked os 3 .any ((OpenSpec.ofChange Rows.boxMeetsSpec).preRow enc Try.prog Try.f3 Rows.boxMeetsRow.domain false Rows.boxMeetsRow.laid) (((OpenSpec.ofChange Rows.boxMeetsSpec).at F).post enc Try.prog Try.f3 false true false false) := by
  obtain ⟨places, hx⟩ := reads os enc
  refine returnsInHanded_of_row (C := Try.checked) (s := OpenSpec.ofChange Rows.boxMeetsSpec) own started (by kernel_rfl) Try.func3
    (witness_row_at (enc := enc) (C := Try.checked) false (laidWorld os) #[Value.agg #[.int .i64 0, .int .i64 0, .int .i64 0, .int .i64 0], Value.agg #[.int .i64 0, .int .i64 0, .int .i64 0, .int .i64 0], Value.agg #[.int .i64 0, .int .i64 0]] rfl (by kernel_rfl) (by kernel_rfl) (by kernel_rfl)
      (OpenSpec.preRow_of_cond 8 hx (by kernel_rfl) (fun k hk => by cases hk) (by kernel_rfl) (laid_met os))) ?_
  intro W base args ds gs before hval hW _ _ hreach hL _ _
  exact contract H enc W base args ds gs before hval hW hL hreach

theorem said : Rows.BoxMeetsSaid :=
  OpenClaim.holds_of_cond 3 Try.f3 rfl rfl rfl rfl rfl rfl rfl ⟨rfl, rfl, rfl, rfl, rfl⟩ rfl rfl rfl rfl rfl (by kernel_rfl) Try.func3 (by kernel_rfl)
    (of_decide_eq_true (by kernel_rfl)) (by unfold Func.isWrapper; first | (rw [if_pos (by decide +kernel)]; kernel_rfl) | (rw [if_neg (by decide +kernel)]; exact ⟨rfl, rfl⟩))
    (fun os started H enc _ F => by rw [OpenClaim.pre_eq_preRow]; exact lifted os started H enc F)

#print axioms said
end Go.Proofs.Ythmodjnbpmigcaa.boxMeets

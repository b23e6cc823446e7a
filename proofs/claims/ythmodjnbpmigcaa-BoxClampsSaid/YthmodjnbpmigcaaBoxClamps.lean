/-
  BoxClamps holds, whatever the input.
-/
import Derived.Test.YthmodjnbpmigcaaFrame0
import Derived.Test.YthmodjnbpmigcaaBoxT
import Derived.Test.YthmodjnbpmigcaaFrameX
namespace Go.Proofs.Ythmodjnbpmigcaa.boxClamps
open Go.ChangeShapes Go.WideShapes Go.ChangeAt Go.RowKit
open Go.ChangeMaps (open_string)

set_option maxRecDepth 100000 in
set_option maxHeartbeats 16000000 in
theorem walk (t l b r p q : Int) (w : World) :
    Calls Try.prog 4 #[bV t l b r, pV p q] w fun e w' => e = .returned (.bool true) ∧ Below w.heap.size w w' := by
  have HS := Lib.hid (fun W => small_any t l b r W)
  have HN := Lib.hid (new2 w 23 25 (bC t l b r) (sC p q))
  cases hs : smB t l b r
  · rw [hs] at HS
    clear hs
    unfold bV pV at *
    go_enter Try.func4, Try.ntmps4
    go_wp2_with fail
    refine (awake5_any _).mono ?_
    rintro e w1 ⟨rfl, hb1⟩
    obtain ⟨c0, c1, c2, c3, _⟩ := blk4 (HN.out.1.next hb1)
    have HB1 := Lib.hid (bstep HN.out.2.2 hb1)
    clear hb1
    go_wp2_with fail
    refine (HS.out _).mono ?_
    rintro e w2 ⟨rfl, hb2⟩
    have HB2 := Lib.hid (bstep HB1.out hb2)
    clear hb2 c0 c1 c2 c3
    go_wp2_with fail
    go_ret
    exact ⟨rfl, HB2.out⟩
  · obtain ⟨s0, s1, s2, s3⟩ := sm_of t l b r hs
    rw [hs] at HS
    clear hs
    have HP := Lib.hid (fun W => bclamp_any t l b r p q s0 s1 s2 s3 W)
    have HQ := Lib.hid (fun W => refBClamp_any t l b r p q s0 s1 s2 s3 W)
    rw [← clamp_eq] at HQ
    have HZ := Lib.hid (fun W => size_any t l b r s0 s1 s2 s3 W)
    have HE := Lib.hid (fun W => empty_any t l b r W)
    have HIp := Lib.hid (fun W => in_any t l b r p q W)
    obtain ⟨res, hres⟩ : ∃ m, m = clampT t l b r p q := ⟨_, rfl⟩
    rw [← hres] at HP HQ
    obtain ⟨x, y⟩ := res
    have HV := Lib.hid (clampT_in t l b r p q x y hres.symm)
    have HIx := Lib.hid (fun W => in_any t l b r x y W)
    clear hres
    simp only at HP HQ
    have hq1 : ∀ W, (binOp .neq 25 (.agg #[.int .i64 x, .int .i64 y]) (.agg #[.int .i64 x, .int .i64 y])).run Try.prog W = .ok (.bool false) W := fun W => by
      have := neq_pos W x y x y
      rwa [show eqB2 x y x y = true from by unfold eqB2; simp] at this
    have hq2 : ∀ W, (binOp .eql 25 (.agg #[.int .i64 x, .int .i64 y]) (.agg #[.int .i64 p, .int .i64 q])).run Try.prog W = .ok (.bool (eqB2 x y p q)) W := fun W => eql_pos W x y p q
    have HQ1 := Lib.hid hq1
    have HQ2 := Lib.hid hq2
    have HG := Lib.hid guard_pos'
    clear hq1 hq2
    have HR : Hid (bEm t l b r = false → 0 < b - t ∧ 0 < r - l ∧ b - t ≤ 2000000 ∧ r - l ≤ 2000000) := Lib.hid (fun h => by have := bEm_false h; unfold Sm at *; omega)
    clear s0 s1 s2 s3
    unfold bV pV at *
    cases he0 : bEm t l b r
    all_goals
      rw [he0] at HE HZ HR HV
      clear he0
      go_enter Try.func4, Try.ntmps4
      go_wp2_with fail
      refine (awake5_any _).mono ?_
      rintro e w1 ⟨rfl, hb1⟩
      have HK1 := Lib.hid (And.intro (HN.out.1.next hb1) (And.intro (HN.out.2.1.next hb1) (bstep HN.out.2.2 hb1)))
      clear hb1
      obtain ⟨c0, c1, c2, c3, _⟩ := blk4 HK1.out.1
      go_wp2_with fail
      refine (HS.out _).mono ?_
      rintro e w2 ⟨rfl, hb2⟩
      have HK2 := Lib.hid (And.intro (HK1.out.1.next hb2) (And.intro (HK1.out.2.1.next hb2) (bstep HK1.out.2.2 hb2)))
      clear hb2 c0 c1 c2 c3 HK1
      obtain ⟨c0, c1, c2, c3, _⟩ := blk4 HK2.out.1
      obtain ⟨d0, d1, _⟩ := blk2 HK2.out.2.1
      go_wp2_with fail
      refine (HP.out _).mono ?_
      rintro e w3 ⟨rfl, hb3⟩
      have HK3 := Lib.hid (And.intro (HK2.out.1.next hb3) (And.intro (HK2.out.2.1.next hb3) (bstep HK2.out.2.2 hb3)))
      clear hb3 c0 c1 c2 c3 d0 d1 HK2
      have hz : w.heap.size < w3.heap.size := HK3.out.1.lt
      obtain ⟨c0, c1, c2, c3, _⟩ := blk4 HK3.out.1
      go_wp2_with fail
      have HA := Lib.hid (new1 w3 25 (sC x y))
      refine (HZ.out _).mono ?_
      rintro e w4 ⟨rfl, hb4⟩
      clear c0 c1 c2 c3 hz
      go_wp2_with fail
      refine world_gen (fun W => Blk W w.heap.size 23 (bC t l b r) ∧ Blk W (w.heap.size + 1) 25 (sC p q) ∧ Blk W w3.heap.size 25 (sC x y) ∧ Below w.heap.size w W)
        ⟨(HK3.out.1.alloc _).next hb4, (HK3.out.2.1.alloc _).next hb4, HA.out.1.next hb4, bstep (bstep HK3.out.2.2 HA.out.2) hb4⟩ ?_
      intro W HW
      replace HW := Lib.hid HW
      have HC := Lib.hid (fun w' (h : Only [] W w') => And.intro (blk4 (h.blk HW.out.1 (by simp))) (And.intro (blk2 (h.blk HW.out.2.1 (by simp))) (blk2 (h.blk HW.out.2.2.1 (by simp)))))
      clear hb4
    · obtain ⟨hr0, hr1, hr2, hr3⟩ := HR.out (by first | rfl | trivial)
      obtain ⟨hv0, hv1⟩ := HV.out (by first | rfl | trivial)
      rw [hv0] at HIx
      rw [hv1] at HQ2
      generalize inB t l b r p q = ip at *
      clear HV HR hv0 hv1 HZ
      have hz1 : (b - t == 0) = false := by simp; omega
      have hz2 : (r - l == 0) = false := by simp; omega
      have s1 : IntKind.i64.wrap (b - t) = b - t := IntWalk.i64_in _ (by omega)
      have s2 : IntKind.i64.wrap (r - l) = r - l := IntWalk.i64_in _ (by omega)
      clear hr0 hr1 hr2 hr3
      refine wp_region_mix_lit (by kernel_rfl) [(3, .call (.agg #[.int .i64 x, .int .i64 y])), (7, .call (.bool false)), (14, .call (.bool false))] (by kernel_rfl) (by kernel_rfl) (by kernel_rfl) (by rfl) (by simp [apartK] <;> omega) (by simp [startK]) (by simp [stabK]) (⟨fun _ => undef, by simp [okK]⟩) (fun β hβ => ?_)
      repeat (
        refine lex_val (v := ?_) rfl rfl (fun w' hf => ?_) ?_
        rotate_left
        · obtain ⟨⟨c0, c1, c2, c3, _⟩, ⟨d0, d1, _⟩, f0, f1, _⟩ := HC.out w' hf.only; have hq := HQ1.out; have hg := HG.out; go_simp
          try rfl
        try simp only [Act.put, List.setIfInBounds_toArray, List.set_cons_zero, List.set_cons_succ])
      refine lex_call (f := 21) (args := ?_) rfl rfl (fun w' hf => ?_) (fun w' hf => ?_) ?_
      rotate_left
      · go_simp
        try rfl
      · exact HQ.out w'
      try simp only [Act.put, List.setIfInBounds_toArray, List.set_cons_zero, List.set_cons_succ]
      repeat (
        refine lex_val (v := ?_) rfl rfl (fun w' hf => ?_) ?_
        rotate_left
        · obtain ⟨⟨c0, c1, c2, c3, _⟩, ⟨d0, d1, _⟩, f0, f1, _⟩ := HC.out w' hf.only; have hq := HQ1.out; have hg := HG.out; go_simp
          try rfl
        try simp only [Act.put, List.setIfInBounds_toArray, List.set_cons_zero, List.set_cons_succ])
      refine lex_call (f := 13) (args := ?_) rfl rfl (fun w' hf => ?_) (fun w' hf => ?_) ?_
      rotate_left
      · go_simp
        try rfl
      · exact HE.out w'
      try simp only [Act.put, List.setIfInBounds_toArray, List.set_cons_zero, List.set_cons_succ]
      repeat (
        refine lex_val (v := ?_) rfl rfl (fun w' hf => ?_) ?_
        rotate_left
        · obtain ⟨⟨c0, c1, c2, c3, _⟩, ⟨d0, d1, _⟩, f0, f1, _⟩ := HC.out w' hf.only; have hq := HQ1.out; have hg := HG.out; go_simp
          try rfl
        try simp only [Act.put, List.setIfInBounds_toArray, List.set_cons_zero, List.set_cons_succ])
      refine lex_call (f := 13) (args := ?_) rfl rfl (fun w' hf => ?_) (fun w' hf => ?_) ?_
      rotate_left
      · go_simp
        try rfl
      · exact HE.out w'
      try simp only [Act.put, List.setIfInBounds_toArray, List.set_cons_zero, List.set_cons_succ]
      repeat (
        refine lex_val (v := ?_) rfl rfl (fun w' hf => ?_) ?_
        rotate_left
        · go_simp
          try rfl
        try simp only [Act.put, List.setIfInBounds_toArray, List.set_cons_zero, List.set_cons_succ])
      refine lex_nil fun w5 he => ?_
      have HK5 := Lib.hid (And.intro (HW.out.1.next he.only.below0) (And.intro (HW.out.2.1.next he.only.below0) (And.intro (HW.out.2.2.1.next he.only.below0) (bstep HW.out.2.2.2 he.only.below0))))
      clear he HC HW hβ
      obtain ⟨c0, c1, c2, c3, _⟩ := blk4 HK5.out.1
      go_wp2_with fail
      refine (HE.out _).mono ?_
      rintro e w6 ⟨rfl, hb6⟩
      clear c0 c1 c2 c3
      go_wp2_with fail
      have HK6 := Lib.hid (And.intro (HK5.out.1.next hb6) (And.intro (HK5.out.2.1.next hb6) (And.intro (HK5.out.2.2.1.next hb6) (bstep HK5.out.2.2.2 hb6))))
      have HC := Lib.hid (fun w' (h : Only [] w6 w') => And.intro (blk4 (h.blk HK6.out.1 (by simp))) (And.intro (blk2 (h.blk HK6.out.2.1 (by simp))) (blk2 (h.blk HK6.out.2.2.1 (by simp)))))
      clear hb6 HK5
      refine wp_region_mix_lit (by kernel_rfl) [(19, .call (.bool true)), (24, .call (.bool ip))] (by kernel_rfl) (by kernel_rfl) (by kernel_rfl) (by rfl) (by simp [apartK] <;> omega) (by simp [startK]) (by simp [stabK]) (⟨fun _ => undef, by simp [okK]⟩) (fun β hβ => ?_)
      repeat (
        refine lex_val (v := ?_) rfl rfl (fun w' hf => ?_) ?_
        rotate_left
        · obtain ⟨⟨c0, c1, c2, c3, _⟩, ⟨d0, d1, _⟩, f0, f1, _⟩ := HC.out w' hf.only; go_simp
          try rfl
        try simp only [Act.put, List.setIfInBounds_toArray, List.set_cons_zero, List.set_cons_succ])
      refine lex_call (f := 15) (args := ?_) rfl rfl (fun w' hf => ?_) (fun w' hf => ?_) ?_
      rotate_left
      · go_simp
        try rfl
      · exact HIx.out w'
      try simp only [Act.put, List.setIfInBounds_toArray, List.set_cons_zero, List.set_cons_succ]
      repeat (
        refine lex_val (v := ?_) rfl rfl (fun w' hf => ?_) ?_
        rotate_left
        · obtain ⟨⟨c0, c1, c2, c3, _⟩, ⟨d0, d1, _⟩, f0, f1, _⟩ := HC.out w' hf.only; go_simp
          try rfl
        try simp only [Act.put, List.setIfInBounds_toArray, List.set_cons_zero, List.set_cons_succ])
      refine lex_call (f := 15) (args := ?_) rfl rfl (fun w' hf => ?_) (fun w' hf => ?_) ?_
      rotate_left
      · go_simp
        try rfl
      · exact HIp.out w'
      try simp only [Act.put, List.setIfInBounds_toArray, List.set_cons_zero, List.set_cons_succ]
      repeat (
        refine lex_val (v := ?_) rfl rfl (fun w' hf => ?_) ?_
        rotate_left
        · obtain ⟨⟨c0, c1, c2, c3, _⟩, ⟨d0, d1, _⟩, f0, f1, _⟩ := HC.out w' hf.only; have hq := HQ2.out; have hg := HG.out; go_simp
          try rfl
        try simp only [Act.put, List.setIfInBounds_toArray, List.set_cons_zero, List.set_cons_succ])
      refine lex_nil fun w7 he => ?_
      have HB := Lib.hid (bstep HK6.out.2.2.2 he.only.below0)
      clear he
      go_wp2_with fail
      go_ret
      exact ⟨by simp, HB.out⟩
    · clear HV HR HZ HQ2
      refine wp_region_mix_lit (by kernel_rfl) [(3, .call (.agg #[.int .i64 x, .int .i64 y])), (7, .call (.bool true)), (14, .call (.bool true))] (by kernel_rfl) (by kernel_rfl) (by kernel_rfl) (by rfl) (by simp [apartK] <;> omega) (by simp [startK]) (by simp [stabK]) (⟨fun _ => undef, by simp [okK]⟩) (fun β hβ => ?_)
      repeat (
        refine lex_val (v := ?_) rfl rfl (fun w' hf => ?_) ?_
        rotate_left
        · obtain ⟨⟨c0, c1, c2, c3, _⟩, ⟨d0, d1, _⟩, f0, f1, _⟩ := HC.out w' hf.only; have hq := HQ1.out; have hg := HG.out; go_simp
          try rfl
        try simp only [Act.put, List.setIfInBounds_toArray, List.set_cons_zero, List.set_cons_succ])
      refine lex_call (f := 21) (args := ?_) rfl rfl (fun w' hf => ?_) (fun w' hf => ?_) ?_
      rotate_left
      · go_simp
        try rfl
      · exact HQ.out w'
      try simp only [Act.put, List.setIfInBounds_toArray, List.set_cons_zero, List.set_cons_succ]
      repeat (
        refine lex_val (v := ?_) rfl rfl (fun w' hf => ?_) ?_
        rotate_left
        · obtain ⟨⟨c0, c1, c2, c3, _⟩, ⟨d0, d1, _⟩, f0, f1, _⟩ := HC.out w' hf.only; have hq := HQ1.out; have hg := HG.out; go_simp
          try rfl
        try simp only [Act.put, List.setIfInBounds_toArray, List.set_cons_zero, List.set_cons_succ])
      refine lex_call (f := 13) (args := ?_) rfl rfl (fun w' hf => ?_) (fun w' hf => ?_) ?_
      rotate_left
      · go_simp
        try rfl
      · exact HE.out w'
      try simp only [Act.put, List.setIfInBounds_toArray, List.set_cons_zero, List.set_cons_succ]
      repeat (
        refine lex_val (v := ?_) rfl rfl (fun w' hf => ?_) ?_
        rotate_left
        · obtain ⟨⟨c0, c1, c2, c3, _⟩, ⟨d0, d1, _⟩, f0, f1, _⟩ := HC.out w' hf.only; have hq := HQ1.out; have hg := HG.out; go_simp
          try rfl
        try simp only [Act.put, List.setIfInBounds_toArray, List.set_cons_zero, List.set_cons_succ])
      refine lex_call (f := 13) (args := ?_) rfl rfl (fun w' hf => ?_) (fun w' hf => ?_) ?_
      rotate_left
      · go_simp
        try rfl
      · exact HE.out w'
      try simp only [Act.put, List.setIfInBounds_toArray, List.set_cons_zero, List.set_cons_succ]
      repeat (
        refine lex_val (v := ?_) rfl rfl (fun w' hf => ?_) ?_
        rotate_left
        · go_simp
          try rfl
        try simp only [Act.put, List.setIfInBounds_toArray, List.set_cons_zero, List.set_cons_succ])
      refine lex_nil fun w5 he => ?_
      have HK5 := Lib.hid (And.intro (HW.out.1.next he.only.below0) (bstep HW.out.2.2.2 he.only.below0))
      clear he HC HW hβ
      obtain ⟨c0, c1, c2, c3, _⟩ := blk4 HK5.out.1
      go_wp2_with fail
      refine (HE.out _).mono ?_
      rintro e w6 ⟨rfl, hb6⟩
      have HB := Lib.hid (bstep HK5.out.2 hb6)
      clear hb6 c0 c1 c2 c3
      go_wp2_with fail
      go_ret
      exact ⟨rfl, HB.out⟩

/-- What the walk gives, for every argument and every world that holds the table. -/
theorem contract (H : Type) (enc : TypeId × Value → H) (W : World) (base : Nat) (args : Array Value) (ds gs : List (DataW H)) (before : List MemPlace)
    (hval : ∀ (j : Nat) t v, Try.f4.params[j]? = some t → args[j]? = some v → Value.okWide Try.prog W .any base t v)
    (hW : DataW.Whole enc Try.prog Try.f4.params.toList Rows.boxClampsSpec.vars false W args.toList ds gs before) (_hL : laidMetH Try.prog Rows.boxClampsRow.laid W)
    (hreach : (DataW.weightsEach Try.prog (Try.f4.params.toList ++ []) (ds ++ gs)).all (· ≤ reachBytes) = true) :
    Calls Try.prog 4 args W fun e W' => ∃ v, e = .returned v ∧ Rows.boxClampsSpec.post enc Try.prog Try.f4 false true false false W args v W' := by
  have hW' := hW
  clear _hL
  have hlts : ∀ x ∈ before, x.block < W.heap.size := fun x hx => hW'.lt x hx
  obtain ⟨p, q, hA0, hV, rfl, hfz, hnd⟩ := hW
  have hA : DataW.TrodAll enc Try.prog W 0 (fun _ => true) true Try.f4.params.toList args.toList ds p := hA0
  rw [Try.params4] at hA hval hreach
  obtain ⟨v0, vs0, d0, ds0, pp0, qq0, hargs, rfl, rfl, h0, rr0⟩ := trodAll_cons hA
  obtain ⟨v1, vs1, d1, ds1, pp1, qq1, rfl, rfl, rfl, h1, rr1⟩ := trodAll_cons rr0
  obtain ⟨rfl, rfl, rfl⟩ := trodAll_nil rr1
  obtain rfl : args = #[v0, v1] := by cases args; simp_all
  obtain ⟨rfl, rfl⟩ := trodVars_none hV
  obtain ⟨t0, l0, b0, r0, rfl⟩ := box_in (hval 0 23 v0 rfl rfl) h0
  obtain ⟨p1, q1, rfl⟩ := pos_in (hval 1 25 v1 rfl rfl) h1
  clear hA0
  refine (walk t0 l0 b0 r0 p1 q1 W).mono fun e W' ⟨he, hb⟩ => ?_
  subst he
  exact ⟨_, rfl, post_law laidOut (by kernel_rfl) (by kernel_rfl) rfl hW' rfl hb⟩

theorem laid_met (os : Os) : laidMet Try.prog Rows.boxClampsRow.laid ((laidWorld os).forCall (fun _ _ => 0) ⟨#[], #[Value.agg #[.int .i64 0, .int .i64 0, .int .i64 0, .int .i64 0], Value.agg #[.int .i64 0, .int .i64 0]], []⟩).memory :=
  laidMet_of_run' 8 (by kernel_rfl) (by kernel_rfl)
theorem reads (os : Os) {H : Type} (enc : TypeId × Value → H) : ∃ places, DataW.whole enc Try.prog ((laidWorld os).forCall (fun _ _ => 0) ⟨#[], #[Value.agg #[.int .i64 0, .int .i64 0, .int .i64 0, .int .i64 0], Value.agg #[.int .i64 0, .int .i64 0]], []⟩).memory Try.f4.params.toList Rows.boxClampsSpec.vars false (#[Value.agg #[.int .i64 0, .int .i64 0, .int .i64 0, .int .i64 0], Value.agg #[.int .i64 0, .int .i64 0]] : Array Value).toList 8 = some ([.agg [.lit (.int .i64 0), .lit (.int .i64 0), .lit (.int .i64 0), .lit (.int .i64 0)], .agg [.lit (.int .i64 0), .lit (.int .i64 0)]], [], places) :=
  ⟨[], by kernel_rfl⟩

set_option maxRecDepth 100000 in
theorem lifted (os : Os) (started : os.Started) (H : Type) (enc : TypeId × Value → H) (F : Stop.Interp) :
    ReturnsInHanded {} Try.checked os 4 .any ((OpenSpec.ofChange Rows.boxClampsSpec).preRow enc Try.prog Try.f4 Rows.boxClampsRow.domain false Rows.boxClampsRow.laid) (((OpenSpec.ofChange Rows.boxClampsSpec).at F).post enc Try.prog Try.f4 false true false false) := by
  obtain ⟨places, hx⟩ := reads os enc
  refine returnsInHanded_of_row (C := Try.checked) (s := OpenSpec.ofChange Rows.boxClampsSpec) own started (by kernel_rfl) Try.func4
    (witness_row_at (enc := enc) (C := Try.checked) false (laidWorld os) #[Value.agg #[.int .i64 0, .int .i64 0, .int .i64 0, .int .i64 0], Value.agg #[.int .i64 0, .int .i64 0]] rfl (by kernel_rfl) (by kernel_rfl) (by kernel_rfl)
      (OpenSpec.preRow_of_cond 8 hx (by kernel_rfl) (fun k hk => by cases hk) (by kernel_rfl) (laid_met os))) ?_
  intro W base args ds gs before hval hW _ _ hreach hL _ _
  exact contract H enc W base args ds gs before hval hW hL hreach

theorem said : Rows.BoxClampsSaid :=
  OpenClaim.holds_of_cond 4 Try.f4 rfl rfl rfl rfl rfl rfl rfl ⟨rfl, rfl, rfl, rfl, rfl⟩ rfl rfl rfl rfl rfl (by kernel_rfl) Try.func4 (by kernel_rfl)
    (of_decide_eq_true (by kernel_rfl)) (by unfold Func.isWrapper; first | (rw [if_pos (by decide +kernel)]; kernel_rfl) | (rw [if_neg (by decide +kernel)]; exact ⟨rfl, rfl⟩))
    (fun os started H enc _ F => by rw [OpenClaim.pre_eq_preRow]; exact lifted os started H enc F)

#print axioms said
end Go.Proofs.Ythmodjnbpmigcaa.boxClamps

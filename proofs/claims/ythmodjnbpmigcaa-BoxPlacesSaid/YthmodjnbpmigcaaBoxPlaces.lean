/-
  BoxPlaces holds, whatever the input.
-/
import Derived.Test.YthmodjnbpmigcaaFrame0
import Derived.Test.YthmodjnbpmigcaaBoxT
import Derived.Test.YthmodjnbpmigcaaFrameX
namespace Go.Proofs.Ythmodjnbpmigcaa.boxPlaces
open Go.ChangeShapes Go.WideShapes Go.ChangeAt Go.RowKit
open Go.ChangeMaps (open_string)

set_option maxRecDepth 100000 in
set_option maxHeartbeats 4000000 in
theorem walk (t l b r : Int) (A : Option Addr) (c : Nat) (ns : List Int) (hm : ns.length ≤ 17592186043904) (hc : ns.length ≤ c) (i : Int) (hi : -9223372036854775808 ≤ i ∧ i ≤ 9223372036854775807) (w : World) (hR : RInts w A ns) :
    Calls Try.prog 7 #[bV t l b r, .slice A ns.length c, .int .i64 i] w fun e w' => e = .returned (.bool true) ∧ Below w.heap.size w w' := by
  have HS := Lib.hid (fun W => small_any t l b r W)
  have HN := Lib.hid (new1 w 23 (bC t l b r))
  have HR := Lib.hid hR
  clear hR
  cases hs : smB t l b r
  · rw [hs] at HS
    clear hs
    unfold bV at *
    go_enter Try.func7, Try.ntmps7
    go_wp2_with fail
    refine (awake5_any _).mono ?_
    rintro e w1 ⟨rfl, hb1⟩
    obtain ⟨c0, c1, c2, c3, _⟩ := blk4 (HN.out.1.next hb1)
    have HB1 := Lib.hid (bstep HN.out.2 hb1)
    clear hb1
    go_wp2_with fail
    refine (HS.out _).mono ?_
    rintro e w2 ⟨rfl, hb2⟩
    have HB2 := Lib.hid (bstep HB1.out hb2)
    clear hb2 c0 c1 c2 c3
    go_wp2_with fail
    go_ret
    exact ⟨rfl, HB2.out⟩
  · obtain ⟨s0, s1, s2, s3⟩ := sm_of t l b r hs
    rw [hs] at HS
    clear hs
    have HP := Lib.hid (fun W h => place_any t l b r s0 s1 s2 s3 A c ns hm hc i W h)
    have HQ := Lib.hid (fun W h => refPlace_any t l b r s0 s1 s2 s3 A c ns hm i hi.1 hi.2 W h)
    rw [← place_eq] at HQ
    have HE := Lib.hid (fun W => empty_any t l b r W)
    have HI := Lib.hid (fun W => in_any t l b r (placeT t l b r ns i).1 (placeT t l b r ns i).2 W)
    have HV := Lib.hid (placeT_in t l b r ns i)
    clear s0 s1 s2 s3 hm hc hi
    generalize placeT t l b r ns i = res at *
    obtain ⟨x, y⟩ := res
    simp only at HP HQ HI HV
    generalize ns.length = m at *
    have hq : ∀ W, (binOp .eql 25 (.agg #[.int .i64 x, .int .i64 y]) (.agg #[.int .i64 x, .int .i64 y])).run Try.prog W = .ok (.bool true) W := fun W => by
      have := eql_pos W x y x y
      rwa [show eqB2 x y x y = true from by unfold eqB2; simp] at this
    have hg := guard_pos'
    have HQ2 := Lib.hid hq
    have HG2 := Lib.hid hg
    clear hq hg
    unfold bV pV at *
    go_enter Try.func7, Try.ntmps7
    go_wp2_with fail
    refine (awake5_any _).mono ?_
    rintro e w1 ⟨rfl, hb1⟩
    have HK1 := Lib.hid (And.intro (HN.out.1.next hb1) (bstep HN.out.2 hb1))
    clear hb1
    obtain ⟨c0, c1, c2, c3, _⟩ := blk4 HK1.out.1
    go_wp2_with fail
    refine (HS.out _).mono ?_
    rintro e w2 ⟨rfl, hb2⟩
    have HK2 := Lib.hid (And.intro (HK1.out.1.next hb2) (bstep HK1.out.2 hb2))
    clear hb2 c0 c1 c2 c3 HK1
    obtain ⟨c0, c1, c2, c3, _⟩ := blk4 HK2.out.1
    go_wp2_with fail
    refine (HP.out _ (HR.out.next HK2.out.2)).mono ?_
    rintro e w3 ⟨rfl, hb3⟩
    have HK3 := Lib.hid (And.intro (HK2.out.1.next hb3) (bstep HK2.out.2 hb3))
    clear hb3 c0 c1 c2 c3 HK2
    go_wp2_with fail
    refine world_gen (fun W => Blk W w.heap.size 23 (bC t l b r) ∧ Blk W w3.heap.size 25 (sC x y) ∧ Below w.heap.size w W) ⟨HK3.out.1.alloc _, (new1 w3 _ _).1, bstep HK3.out.2 (new1 w3 _ _).2⟩ ?_
    intro W HW
    replace HW := Lib.hid HW
    have HC := Lib.hid (fun w' (h : Only [] W w') => And.intro (blk4 (h.blk HW.out.1 (by simp))) (blk2 (h.blk HW.out.2.1 (by simp))))
    have HRW : Hid (∀ w', Only [] W w' → RInts w' A ns) := Lib.hid (fun w' h => rints_only HR.out HW.out.2.2 (by simp) h)
    cases he0 : bEm t l b r
    · rw [he0] at HE
      rw [HV.out he0] at HI
      clear he0 HV
      refine wp_region_mix_lit (by kernel_rfl) [(4, .call (.agg #[.int .i64 x, .int .i64 y])), (8, .call (.bool false)), (12, .call (.bool true))] (by kernel_rfl) (by kernel_rfl) (by kernel_rfl) (by rfl) (by simp [apartK] <;> omega) (by simp [startK]) (by simp [stabK]) (⟨fun _ => undef, by simp [okK]⟩) (fun β hβ => ?_)
      repeat (
        refine lex_val (v := ?_) rfl rfl (fun w' hf => ?_) ?_
        rotate_left
        · obtain ⟨⟨c0, c1, c2, c3, _⟩, d0, d1, _⟩ := HC.out w' hf.only; have hq := HQ2.out; have hg := HG2.out; go_simp
          try rfl
        try simp only [Act.put, List.setIfInBounds_toArray, List.set_cons_zero, List.set_cons_succ])
      refine lex_call (f := 28) (args := ?_) rfl rfl (fun w' hf => ?_) (fun w' hf => ?_) ?_
      rotate_left
      · go_simp
        try rfl
      · exact HQ.out w' (HRW.out w' hf.only)
      try simp only [Act.put, List.setIfInBounds_toArray, List.set_cons_zero, List.set_cons_succ]
      repeat (
        refine lex_val (v := ?_) rfl rfl (fun w' hf => ?_) ?_
        rotate_left
        · obtain ⟨⟨c0, c1, c2, c3, _⟩, d0, d1, _⟩ := HC.out w' hf.only; have hq := HQ2.out; have hg := HG2.out; go_simp
          try rfl
        try simp only [Act.put, List.setIfInBounds_toArray, List.set_cons_zero, List.set_cons_succ])
      refine lex_call (f := 13) (args := ?_) rfl rfl (fun w' hf => ?_) (fun w' hf => ?_) ?_
      rotate_left
      · go_simp
        try rfl
      · exact HE.out w'
      try simp only [Act.put, List.setIfInBounds_toArray, List.set_cons_zero, List.set_cons_succ]
      repeat (
        refine lex_val (v := ?_) rfl rfl (fun w' hf => ?_) ?_
        rotate_left
        · obtain ⟨⟨c0, c1, c2, c3, _⟩, d0, d1, _⟩ := HC.out w' hf.only; have hq := HQ2.out; have hg := HG2.out; go_simp
          try rfl
        try simp only [Act.put, List.setIfInBounds_toArray, List.set_cons_zero, List.set_cons_succ])
      refine lex_call (f := 15) (args := ?_) rfl rfl (fun w' hf => ?_) (fun w' hf => ?_) ?_
      rotate_left
      · go_simp
        try rfl
      · exact HI.out w'
      try simp only [Act.put, List.setIfInBounds_toArray, List.set_cons_zero, List.set_cons_succ]
      repeat (
        refine lex_val (v := ?_) rfl rfl (fun w' hf => ?_) ?_
        rotate_left
        · go_simp
          try rfl
        try simp only [Act.put, List.setIfInBounds_toArray, List.set_cons_zero, List.set_cons_succ])
      refine lex_nil fun w' he => ?_
      have HB := Lib.hid (bstep HW.out.2.2 he.only.below0)
      clear he
      go_wp2_with fail
      go_ret
      exact ⟨rfl, HB.out⟩
    · rw [he0] at HE
      clear he0 HV
      refine wp_region_mix_lit (by kernel_rfl) [(4, .call (.agg #[.int .i64 x, .int .i64 y])), (8, .call (.bool true))] (by kernel_rfl) (by kernel_rfl) (by kernel_rfl) (by rfl) (by simp [apartK] <;> omega) (by simp [startK]) (by simp [stabK]) (⟨fun _ => undef, by simp [okK]⟩) (fun β hβ => ?_)
      repeat (
        refine lex_val (v := ?_) rfl rfl (fun w' hf => ?_) ?_
        rotate_left
        · obtain ⟨⟨c0, c1, c2, c3, _⟩, d0, d1, _⟩ := HC.out w' hf.only; have hq := HQ2.out; have hg := HG2.out; go_simp
          try rfl
        try simp only [Act.put, List.setIfInBounds_toArray, List.set_cons_zero, List.set_cons_succ])
      refine lex_call (f := 28) (args := ?_) rfl rfl (fun w' hf => ?_) (fun w' hf => ?_) ?_
      rotate_left
      · go_simp
        try rfl
      · exact HQ.out w' (HRW.out w' hf.only)
      try simp only [Act.put, List.setIfInBounds_toArray, List.set_cons_zero, List.set_cons_succ]
      repeat (
        refine lex_val (v := ?_) rfl rfl (fun w' hf => ?_) ?_
        rotate_left
        · obtain ⟨⟨c0, c1, c2, c3, _⟩, d0, d1, _⟩ := HC.out w' hf.only; have hq := HQ2.out; have hg := HG2.out; go_simp
          try rfl
        try simp only [Act.put, List.setIfInBounds_toArray, List.set_cons_zero, List.set_cons_succ])
      refine lex_call (f := 13) (args := ?_) rfl rfl (fun w' hf => ?_) (fun w' hf => ?_) ?_
      rotate_left
      · go_simp
        try rfl
      · exact HE.out w'
      try simp only [Act.put, List.setIfInBounds_toArray, List.set_cons_zero, List.set_cons_succ]
      repeat (
        refine lex_val (v := ?_) rfl rfl (fun w' hf => ?_) ?_
        rotate_left
        · go_simp
          try rfl
        try simp only [Act.put, List.setIfInBounds_toArray, List.set_cons_zero, List.set_cons_succ])
      repeat (
        refine lex_skip rfl rfl ?_
        try simp only [Act.put, List.setIfInBounds_toArray, List.set_cons_zero, List.set_cons_succ])
      repeat (
        refine lex_val (v := ?_) rfl rfl (fun w' hf => ?_) ?_
        rotate_left
        · go_simp
          try rfl
        try simp only [Act.put, List.setIfInBounds_toArray, List.set_cons_zero, List.set_cons_succ])
      refine lex_nil fun w' he => ?_
      have HB := Lib.hid (bstep HW.out.2.2 he.only.below0)
      clear he
      go_wp2_with fail
      go_ret
      exact ⟨rfl, HB.out⟩

/-- What the walk gives, for every argument and every world that holds the table. -/
theorem contract (H : Type) (enc : TypeId × Value → H) (W : World) (base : Nat) (args : Array Value) (ds gs : List (DataW H)) (before : List MemPlace)
    (hval : ∀ (j : Nat) t v, Try.f7.params[j]? = some t → args[j]? = some v → Value.okWide Try.prog W .any base t v)
    (hW : DataW.Whole enc Try.prog Try.f7.params.toList Rows.boxPlacesSpec.vars false W args.toList ds gs before) (_hL : laidMetH Try.prog Rows.boxPlacesRow.laid W)
    (hreach : (DataW.weightsEach Try.prog (Try.f7.params.toList ++ []) (ds ++ gs)).all (· ≤ reachBytes) = true) :
    Calls Try.prog 7 args W fun e W' => ∃ v, e = .returned v ∧ Rows.boxPlacesSpec.post enc Try.prog Try.f7 false true false false W args v W' := by
  have hW' := hW
  clear _hL
  have hlts : ∀ x ∈ before, x.block < W.heap.size := fun x hx => hW'.lt x hx
  obtain ⟨p, q, hA0, hV, rfl, hfz, hnd⟩ := hW
  have hA : DataW.TrodAll enc Try.prog W 0 (fun _ => true) true Try.f7.params.toList args.toList ds p := hA0
  rw [Try.params7] at hA hval hreach
  obtain ⟨v0, vs0, d0, ds0, pp0, qq0, hargs, rfl, rfl, h0, rr0⟩ := trodAll_cons hA
  obtain ⟨v1, vs1, d1, ds1, pp1, qq1, rfl, rfl, rfl, h1, rr1⟩ := trodAll_cons rr0
  obtain ⟨v2, vs2, d2, ds2, pp2, qq2, rfl, rfl, rfl, h2, rr2⟩ := trodAll_cons rr1
  obtain ⟨rfl, rfl, rfl⟩ := trodAll_nil rr2
  obtain rfl : args = #[v0, v1, v2] := by cases args; simp_all
  obtain ⟨rfl, rfl⟩ := trodVars_none hV
  obtain ⟨t0, l0, b0, r0, rfl⟩ := box_in (hval 0 23 v0 rfl rfl) h0
  obtain ⟨b1, len1, cap1, rfl⟩ := okWide_slice Try.underlying39 (hval 1 39 v1 rfl rfl)
  have hin1 := ints_in2 h1 (fun el sp e => by subst e; exact sized_slice hreach (j := 1) rfl rfl Try.underlying39)
  obtain ⟨ns1, hlen1, hm1, hc1, hri1⟩ := hin1
  subst hlen1
  obtain ⟨a2, rfl, rfl, rfl, w2⟩ := open_int Try.underlying3 (hval 2 3 v2 rfl rfl) h2
  have lo2 := bounds_i64 w2
  clear hA0
  refine (walk t0 l0 b0 r0 b1 cap1 ns1 hm1 hc1 a2 lo2 W hri1).mono fun e W' ⟨he, hb⟩ => ?_
  subst he
  exact ⟨_, rfl, post_law laidOut (by kernel_rfl) (by kernel_rfl) rfl hW' rfl hb⟩

theorem laid_met (os : Os) : laidMet Try.prog Rows.boxPlacesRow.laid ((laidWorld os).forCall (fun _ _ => 0) ⟨#[], #[Value.agg #[.int .i64 0, .int .i64 0, .int .i64 0, .int .i64 0], Value.slice none 0 0, Value.int .i64 0], []⟩).memory :=
  laidMet_of_run' 8 (by kernel_rfl) (by kernel_rfl)
theorem reads (os : Os) {H : Type} (enc : TypeId × Value → H) : ∃ places, DataW.whole enc Try.prog ((laidWorld os).forCall (fun _ _ => 0) ⟨#[], #[Value.agg #[.int .i64 0, .int .i64 0, .int .i64 0, .int .i64 0], Value.slice none 0 0, Value.int .i64 0], []⟩).memory Try.f7.params.toList Rows.boxPlacesSpec.vars false (#[Value.agg #[.int .i64 0, .int .i64 0, .int .i64 0, .int .i64 0], Value.slice none 0 0, Value.int .i64 0] : Array Value).toList 8 = some ([.agg [.lit (.int .i64 0), .lit (.int .i64 0), .lit (.int .i64 0), .lit (.int .i64 0)], .nil, .lit (.int .i64 0)], [], places) :=
  ⟨[], by kernel_rfl⟩

set_option maxRecDepth 100000 in
theorem lifted (os : Os) (started : os.Started) (H : Type) (enc : TypeId × Value → H) (F : Stop.Interp) :
    ReturnsInHanded {} Try.checked os 7 .any ((OpenSpec.ofChange Rows.boxPlacesSpec).preRow enc Try.prog Try.f7 Rows.boxPlacesRow.domain false Rows.boxPlacesRow.laid) (((OpenSpec.ofChange Rows.boxPlacesSpec).at F).post enc Try.prog Try.f7 false true false false) := by
  obtain ⟨places, hx⟩ := reads os enc
  refine returnsInHanded_of_row (C := Try.checked) (s := OpenSpec.ofChange Rows.boxPlacesSpec) own started (by kernel_rfl) Try.func7
    (witness_row_at (enc := enc) (C := Try.checked) false (laidWorld os) #[Value.agg #[.int .i64 0, .int .i64 0, .int .i64 0, .int .i64 0], Value.slice none 0 0, Value.int .i64 0] rfl (by kernel_rfl) (by kernel_rfl) (by kernel_rfl)
      (OpenSpec.preRow_of_cond 8 hx (by kernel_rfl) (fun k hk => by cases hk) (by kernel_rfl) (laid_met os))) ?_
  intro W base args ds gs before hval hW _ _ hreach hL _ _
  exact contract H enc W base args ds gs before hval hW hL hreach

theorem said : Rows.BoxPlacesSaid :=
  OpenClaim.holds_of_cond 7 Try.f7 rfl rfl rfl rfl rfl rfl rfl ⟨rfl, rfl, rfl, rfl, rfl⟩ rfl rfl rfl rfl rfl (by kernel_rfl) Try.func7 (by kernel_rfl)
    (of_decide_eq_true (by kernel_rfl)) (by unfold Func.isWrapper; first | (rw [if_pos (by decide +kernel)]; kernel_rfl) | (rw [if_neg (by decide +kernel)]; exact ⟨rfl, rfl⟩))
    (fun os started H enc _ F => by rw [OpenClaim.pre_eq_preRow]; exact lifted os started H enc F)

#print axioms said
end Go.Proofs.Ythmodjnbpmigcaa.boxPlaces

/-
  BoxRects holds, whatever the input.
-/
import Derived.Test.YtdddpdfljjfaoaaFrame0
import Derived.Test.YtdddpdfljjfaoaaBoxR
import Derived.Test.YtdddpdfljjfaoaaSame
import Derived.Test.YtdddpdfljjfaoaaKit3
import Derived.Test.YtdddpdfljjfaoaaFrameX
namespace Go.Proofs.Ytdddpdfljjfaoaa.boxRects
open Go.ChangeShapes Go.WideShapes Go.ChangeAt Go.RowKit
open Go.ChangeMaps (open_string)

theorem two_bools (x : Bool) : (x != x) = false := by cases x <;> rfl
/-- What is known of a world in the midst of the call. -/
def KRC (w : World) (g : Nat) (A : Option Addr) (ns : List Int) (x y : Array Value) (W : World) : Prop := Blk W w.heap.size 23 x ∧ Blk W g 23 y ∧ Below w.heap.size w W ∧ RInts W A ns
def KRD (w : World) (g g' : Nat) (A : Option Addr) (ns : List Int) (x y z : Array Value) (W : World) : Prop := Blk W w.heap.size 23 x ∧ Blk W g 23 y ∧ Blk W g' 23 z ∧ Below w.heap.size w W ∧ RInts W A ns
set_option maxRecDepth 100000 in
set_option maxHeartbeats 16000000 in
theorem walk (t l b r : Int) (A : Option Addr) (c : Nat) (ns : List Int) (hm : ns.length ≤ 17592186043904) (_hc : ns.length ≤ c) (i : Int) (hi : -9223372036854775808 ≤ i ∧ i ≤ 9223372036854775807) (w : World) (hR : RInts w A ns) :
    Calls Try.prog 6 #[bV t l b r, .slice A ns.length c, .int .i64 i] w fun e w' => e = .returned (.bool true) ∧ Below w.heap.size w w' := by
  have HS := Lib.hid (fun W => small_any t l b r W)
  have HN := Lib.hid (new1 w 23 (bC t l b r))
  have HR := Lib.hid hR
  obtain ⟨i0, hi0, hz0, hz1, hz2⟩ := info_parts info_int
  have HI := Lib.hid hi0
  have HZ0 := Lib.hid hz0
  have HZ1 := Lib.hid hz1
  have HZ2 := Lib.hid hz2
  clear hR hi0 hz0 hz1 hz2
  cases hs : smB t l b r
  · rw [hs] at HS
    clear hs
    unfold bV at *
    go_enter Try.func6, Try.ntmps6
    go_wp2_with fail
    refine (awake5_any _).mono ?_
    rintro e w1 ⟨rfl, hb1⟩
    obtain ⟨c0, c1, c2, c3, _⟩ := blk4 (HN.out.1.next hb1)
    have HB1 := Lib.hid (bstep HN.out.2 hb1)
    clear hb1
    go_wp2_with fail
    refine (HS.out _).mono ?_
    rintro e w2 ⟨rfl, hb2⟩
    have HB2 := Lib.hid (bstep HB1.out hb2)
    clear hb2 c0 c1 c2 c3
    go_wp2_with fail
    go_ret
    exact ⟨rfl, HB2.out⟩
  · obtain ⟨s0, s1, s2, s3⟩ := sm_of t l b r hs
    rw [hs] at HS
    clear hs
    have HP := Lib.hid (fun A' c' (hc' : ns.length ≤ c') W h => rect_any t l b r s0 s1 s2 s3 A' c' ns hm hc' i W h)
    have HQ := Lib.hid (fun W h => refRect_any t l b r s0 s1 s2 s3 A c ns hm i hi.1 hi.2 W h)
    obtain ⟨res, hres⟩ : ∃ m, m = rectT t l b r ns i := ⟨_, rfl⟩
    rw [← hres] at HP HQ
    obtain ⟨⟨x1, x2, y1, y2⟩, ok⟩ := res
    simp only at HP HQ
    have HSI : Hid (∀ (A' : Option Addr) (c' : Nat) (W : World), RInts W A' ns → RInts W A ns → Calls Try.prog 26 #[.slice A' ns.length c', .slice A ns.length c] W fun e w' => e = .returned (.bool true) ∧ Below W.heap.size W w') := Lib.hid (fun A' c' W h1 h2 => by
      have := sameInts_any A' A c' c ns ns (by unfold maxLen; omega) (by unfold maxLen; omega) W h1 h2
      rwa [show (ns == ns) = true from by simp] at this)
    have HE : Hid (ok = true → ∀ W, Calls Try.prog 13 #[bV x1 x2 y1 y2] W fun e w' => e = .returned (.bool false) ∧ Below W.heap.size W w') := Lib.hid (fun h W => by
      subst h
      obtain ⟨h1, h2⟩ := rectT_in t l b r ns i x1 x2 y1 y2 hres.symm
      have := empty_any x1 x2 y1 y2 W
      rwa [show bEm x1 x2 y1 y2 = false from by unfold bEm emB; simp; omega] at this)
    have HM : Hid (ok = true → ∀ W, Calls Try.prog 11 #[bV x1 x2 y1 y2, bV t l b r] W fun e w' => e = .returned (bV x1 x2 y1 y2) ∧ Below W.heap.size W w') := Lib.hid (fun h W => by
      subst h
      obtain ⟨h1, h2⟩ := rectT_in t l b r ns i x1 x2 y1 y2 hres.symm
      have := meet_any x1 x2 y1 y2 t l b r W
      rwa [meetT_sub t l b r x1 x2 y1 y2 h1 h2] at this)
    have hq1 : ∀ W, (binOp .neq 23 (.agg #[.int .i64 x1, .int .i64 x2, .int .i64 y1, .int .i64 y2]) (.agg #[.int .i64 x1, .int .i64 x2, .int .i64 y1, .int .i64 y2])).run Try.prog W = .ok (.bool false) W := fun W => by
      have := neq_box W x1 x2 y1 y2 x1 x2 y1 y2
      rwa [show eqB4 x1 x2 y1 y2 x1 x2 y1 y2 = true from by unfold eqB4; simp] at this
    have hq2 : ∀ W, (binOp .eql 23 (.agg #[.int .i64 x1, .int .i64 x2, .int .i64 y1, .int .i64 y2]) (.agg #[.int .i64 x1, .int .i64 x2, .int .i64 y1, .int .i64 y2])).run Try.prog W = .ok (.bool true) W := fun W => by
      have := eql_box W x1 x2 y1 y2 x1 x2 y1 y2
      rwa [show eqB4 x1 x2 y1 y2 x1 x2 y1 y2 = true from by unfold eqB4; simp] at this
    have HQ1 := Lib.hid hq1
    have HQ2 := Lib.hid hq2
    have HG := Lib.hid guard_box'
    have HMl := Lib.hid hm
    have HOne : Hid (∀ u ∈ ns.map (Value.int .i64), u.oneCell' = true) := Lib.hid (by simp [Value.oneCell'])
    clear hq1 hq2 hres s0 s1 s2 s3 hm _hc hi
    unfold bV at *
    go_enter Try.func6, Try.ntmps6
    go_wp2_with fail
    refine (awake5_any _).mono ?_
    rintro e w1 ⟨rfl, hb1⟩
    have HK1 := Lib.hid (And.intro (HN.out.1.next hb1) (bstep HN.out.2 hb1))
    clear hb1
    obtain ⟨c0, c1, c2, c3, _⟩ := blk4 HK1.out.1
    go_wp2_with fail
    refine (HS.out _).mono ?_
    rintro e w2 ⟨rfl, hb2⟩
    have HK2 := Lib.hid (And.intro (HK1.out.1.next hb2) (bstep HK1.out.2 hb2))
    clear hb2 c0 c1 c2 c3 HK1
    have hb0 : Below w2.heap.size w2 (w2.alloc (.cells #[] 3)) := (Below.refl _ _).alloc (Nat.le_refl _) _
    have HB0 := Lib.hid hb0
    have HRd : Hid (Reads (w2.alloc (.cells #[] 3)) w2.heap.size 1 A ns.length (ns.map (Value.int .i64))) := Lib.hid (Reads.below (HR.out.next HK2.out.2) hb0)
    have HO := Lib.hid (World.ownsRow_lit (e := 3) (size := 1) w2 #[] 0 (Nat.le_refl _) (Nat.zero_le _) rfl)
    clear hb0
    go_wp2_with (at_builtin; refine wpList_append_any _ rfl _ _ 39 rfl w2.heap.size 3 i0 _ 1 8 Try.underlying39 HI.out HZ0.out HZ1.out HZ2.out rfl (by decide) _ _ _ rfl HO.out w2.heap.size A ns.length c _ rfl HRd.out HOne.out (by have := HMl.out; unfold maxLen; omega) (by have := HMl.out; omega) (by simp) ?_; intro v' w3 hown hg hat; have HOwn : Hid (OInts w3 w2.heap.size v' ns) := Lib.hid (by simpa [OInts] using hown); have HB3 := Lib.hid (HB0.out.trans ((Below.refl w2.heap.size _).grown hg (by simp) (fun k hk => Nat.le_of_eq (Option.some.inj hk)))); have HK3 := Lib.hid (And.intro (HK2.out.1.next HB3.out) (bstep HK2.out.2 HB3.out)); obtain ⟨A', c', rfl, hc', hr'⟩ := own_ints HOwn.out; have HC' := Lib.hid hc'; have HR' := Lib.hid hr'; clear hown hg hat hc' hr'; obtain ⟨c0, c1, c2, c3, _⟩ := blk4 HK3.out.1)
    refine (HP.out A' c' HC'.out _ HR'.out).mono ?_
    rintro e w4 ⟨rfl, hb4⟩
    have HK4 : Hid (KRC w w4.heap.size A' ns (bC t l b r) (bC x1 x2 y1 y2) (w4.alloc (.cells #[.int .i64 x1, .int .i64 x2, .int .i64 y1, .int .i64 y2] 23))) := Lib.hid ⟨(HK3.out.1.next hb4).alloc _, (new1 w4 _ _).1, bstep (bstep HK3.out.2 hb4) (new1 w4 _ _).2, (HR'.out.next hb4).next (new1 w4 _ _).2⟩
    clear hb4 c0 c1 c2 c3 HK3 HB3 HO HRd HOwn
    go_upto_region 7 with fail
    refine world_gen (KRC w w4.heap.size A' ns (bC t l b r) (bC x1 x2 y1 y2)) HK4.out ?_
    intro W0 HW
    replace HW := Lib.hid HW
    clear HK4 HK2 HB0 HI HZ0 HZ1 HZ2 HP HN HC' HR'
    obtain ⟨c0, c1, c2, c3, _⟩ := blk4 HW.out.1
    go_wp2_with fail
    refine (HQ.out _ (HR.out.next HW.out.2.2.1)).mono ?_
    rintro e w5 ⟨rfl, hb5⟩
    have HK5 : Hid (KRD w w4.heap.size w5.heap.size A' ns (bC t l b r) (bC x1 x2 y1 y2) (bC x1 x2 y1 y2) (w5.alloc (.cells #[.int .i64 x1, .int .i64 x2, .int .i64 y1, .int .i64 y2] 23))) := Lib.hid ⟨(HW.out.1.next hb5).alloc _, (HW.out.2.1.next hb5).alloc _, (new1 w5 _ _).1, bstep (bstep HW.out.2.2.1 hb5) (new1 w5 _ _).2, (HW.out.2.2.2.next hb5).next (new1 w5 _ _).2⟩
    clear hb5 c0 c1 c2 c3 HW
    go_upto_region 8 with fail
    refine world_gen (KRD w w4.heap.size w5.heap.size A' ns (bC t l b r) (bC x1 x2 y1 y2) (bC x1 x2 y1 y2)) HK5.out ?_
    intro W1 HW
    replace HW := Lib.hid HW
    clear HK5 HQ HS
    have HSI1 := Lib.hid (HSI.out A' c' W1 HW.out.2.2.2.2 (HR.out.next HW.out.2.2.2.1))
    clear HSI
    obtain ⟨d0, d1, d2, d3, _⟩ := blk4 HW.out.2.1
    obtain ⟨f0, f1, f2, f3, _⟩ := blk4 HW.out.2.2.1
    have hq := HQ1.out
    have hg := HG.out
    have hbb := two_bools ok
    go_wp2_with fail
    refine HSI1.out.mono ?_
    rintro e w6 ⟨rfl, hb6⟩
    have HK6 := Lib.hid (And.intro (HW.out.1.next hb6) (And.intro (HW.out.2.1.next hb6) (bstep HW.out.2.2.2.1 hb6)))
    clear hb6 d0 d1 d2 d3 f0 f1 f2 f3 hq hg hbb HW HQ1 HSI1
    go_wp2_with fail
    have HCC := Lib.hid (fun w' (h : Only [] w6 w') => And.intro (blk4 (h.blk HK6.out.1 (by simp))) (blk4 (h.blk HK6.out.2.1 (by simp))))
    cases ok
    · skip
      refine wp_region_mix_lit (by kernel_rfl) [] (by kernel_rfl) (by kernel_rfl) (by kernel_rfl) (by rfl) (by simp [apartK] <;> omega) (by simp [startK]) (by simp [stabK]) (⟨fun _ => undef, by simp [okK]⟩) (fun β hβ => ?_)
      repeat (
        refine lex_val (v := ?_) rfl rfl (fun w' hf => ?_) ?_
        rotate_left
        · go_simp
          try rfl
        try simp only [Act.put, List.setIfInBounds_toArray, List.set_cons_zero, List.set_cons_succ])
      repeat (
        refine lex_skip rfl rfl ?_
        try simp only [Act.put, List.setIfInBounds_toArray, List.set_cons_zero, List.set_cons_succ])
      repeat (
        refine lex_val (v := ?_) rfl rfl (fun w' hf => ?_) ?_
        rotate_left
        · go_simp
          try rfl
        try simp only [Act.put, List.setIfInBounds_toArray, List.set_cons_zero, List.set_cons_succ])
      repeat (
        refine lex_skip rfl rfl ?_
        try simp only [Act.put, List.setIfInBounds_toArray, List.set_cons_zero, List.set_cons_succ])
      repeat (
        refine lex_val (v := ?_) rfl rfl (fun w' hf => ?_) ?_
        rotate_left
        · go_simp
          try rfl
        try simp only [Act.put, List.setIfInBounds_toArray, List.set_cons_zero, List.set_cons_succ])
      repeat (
        refine lex_skip rfl rfl ?_
        try simp only [Act.put, List.setIfInBounds_toArray, List.set_cons_zero, List.set_cons_succ])
      repeat (
        refine lex_val (v := ?_) rfl rfl (fun w' hf => ?_) ?_
        rotate_left
        · go_simp
          try rfl
        try simp only [Act.put, List.setIfInBounds_toArray, List.set_cons_zero, List.set_cons_succ])
      refine lex_nil fun w' he => ?_
      have HB := Lib.hid (bstep HK6.out.2.2 he.only.below0)
      clear he
      go_wp2_with fail
      go_ret
      exact ⟨rfl, HB.out⟩
    · have HE1 := Lib.hid (HE.out (by first | rfl | trivial))
      have HM1 := Lib.hid (HM.out (by first | rfl | trivial))
      clear HE HM
      refine wp_region_mix_lit (by kernel_rfl) [(4, .call (.bool false)), (9, .call (.agg #[.int .i64 x1, .int .i64 x2, .int .i64 y1, .int .i64 y2]))] (by kernel_rfl) (by kernel_rfl) (by kernel_rfl) (by rfl) (by simp [apartK] <;> omega) (by simp [startK]) (by simp [stabK]) (⟨fun _ => undef, by simp [okK]⟩) (fun β hβ => ?_)
      repeat (
        refine lex_val (v := ?_) rfl rfl (fun w' hf => ?_) ?_
        rotate_left
        · obtain ⟨⟨c0, c1, c2, c3, _⟩, d0, d1, d2, d3, _⟩ := HCC.out w' hf.only; have hq := HQ2.out; have hg := HG.out; go_simp
          try rfl
        try simp only [Act.put, List.setIfInBounds_toArray, List.set_cons_zero, List.set_cons_succ])
      refine lex_call (f := 13) (args := ?_) rfl rfl (fun w' hf => ?_) (fun w' hf => ?_) ?_
      rotate_left
      · go_simp
        try rfl
      · exact HE1.out w'
      try simp only [Act.put, List.setIfInBounds_toArray, List.set_cons_zero, List.set_cons_succ]
      repeat (
        refine lex_val (v := ?_) rfl rfl (fun w' hf => ?_) ?_
        rotate_left
        · obtain ⟨⟨c0, c1, c2, c3, _⟩, d0, d1, d2, d3, _⟩ := HCC.out w' hf.only; have hq := HQ2.out; have hg := HG.out; go_simp
          try rfl
        try simp only [Act.put, List.setIfInBounds_toArray, List.set_cons_zero, List.set_cons_succ])
      refine lex_call (f := 11) (args := ?_) rfl rfl (fun w' hf => ?_) (fun w' hf => ?_) ?_
      rotate_left
      · go_simp
        try rfl
      · exact HM1.out w'
      try simp only [Act.put, List.setIfInBounds_toArray, List.set_cons_zero, List.set_cons_succ]
      repeat (
        refine lex_val (v := ?_) rfl rfl (fun w' hf => ?_) ?_
        rotate_left
        · obtain ⟨⟨c0, c1, c2, c3, _⟩, d0, d1, d2, d3, _⟩ := HCC.out w' hf.only; have hq := HQ2.out; have hg := HG.out; go_simp
          try rfl
        try simp only [Act.put, List.setIfInBounds_toArray, List.set_cons_zero, List.set_cons_succ])
      refine lex_nil fun w' he => ?_
      have HB := Lib.hid (bstep HK6.out.2.2 he.only.below0)
      clear he
      go_wp2_with fail
      go_ret
      exact ⟨rfl, HB.out⟩

/-- What the walk gives, for every argument and every world that holds the table. -/
theorem contract (H : Type) (enc : TypeId × Value → H) (W : World) (base : Nat) (args : Array Value) (ds gs : List (DataW H)) (before : List MemPlace)
    (hval : ∀ (j : Nat) t v, Try.f6.params[j]? = some t → args[j]? = some v → Value.okWide Try.prog W .any base t v)
    (hW : DataW.Whole enc Try.prog Try.f6.params.toList Rows.boxRectsSpec.vars false W args.toList ds gs before) (_hL : laidMetH Try.prog Rows.boxRectsRow.laid W)
    (hreach : (DataW.weightsEach Try.prog (Try.f6.params.toList ++ []) (ds ++ gs)).all (· ≤ reachBytes) = true) :
    Calls Try.prog 6 args W fun e W' => ∃ v, e = .returned v ∧ Rows.boxRectsSpec.post enc Try.prog Try.f6 false true false false W args v W' := by
  have hW' := hW
  clear _hL
  have hlts : ∀ x ∈ before, x.block < W.heap.size := fun x hx => hW'.lt x hx
  obtain ⟨p, q, hA0, hV, rfl, hfz, hnd⟩ := hW
  have hA : DataW.TrodAll enc Try.prog W 0 (fun _ => true) true Try.f6.params.toList args.toList ds p := hA0
  rw [Try.params6] at hA hval hreach
  obtain ⟨v0, vs0, d0, ds0, pp0, qq0, hargs, rfl, rfl, h0, rr0⟩ := trodAll_cons hA
  obtain ⟨v1, vs1, d1, ds1, pp1, qq1, rfl, rfl, rfl, h1, rr1⟩ := trodAll_cons rr0
  obtain ⟨v2, vs2, d2, ds2, pp2, qq2, rfl, rfl, rfl, h2, rr2⟩ := trodAll_cons rr1
  obtain ⟨rfl, rfl, rfl⟩ := trodAll_nil rr2
  obtain rfl : args = #[v0, v1, v2] := by cases args; simp_all
  obtain ⟨rfl, rfl⟩ := trodVars_none hV
  obtain ⟨t0, l0, b0, r0, rfl⟩ := box_in (hval 0 23 v0 rfl rfl) h0
  obtain ⟨b1, len1, cap1, rfl⟩ := okWide_slice Try.underlying39 (hval 1 39 v1 rfl rfl)
  have hin1 := ints_in2 h1 (fun el sp e => by subst e; exact sized_slice hreach (j := 1) rfl rfl Try.underlying39)
  obtain ⟨ns1, hlen1, hm1, hc1, hri1⟩ := hin1
  subst hlen1
  obtain ⟨a2, rfl, rfl, rfl, w2⟩ := open_int Try.underlying3 (hval 2 3 v2 rfl rfl) h2
  have lo2 := bounds_i64 w2
  clear hA0
  refine (walk t0 l0 b0 r0 b1 cap1 ns1 hm1 hc1 a2 lo2 W hri1).mono fun e W' ⟨he, hb⟩ => ?_
  subst he
  exact ⟨_, rfl, post_law laidOut (by kernel_rfl) (by kernel_rfl) rfl hW' rfl hb⟩

theorem laid_met (os : Os) : laidMet Try.prog Rows.boxRectsRow.laid ((laidWorld os).forCall (fun _ _ => 0) ⟨#[], #[Value.agg #[.int .i64 0, .int .i64 0, .int .i64 0, .int .i64 0], Value.slice none 0 0, Value.int .i64 0], []⟩).memory :=
  laidMet_of_run' 8 (by kernel_rfl) (by kernel_rfl)
theorem reads (os : Os) {H : Type} (enc : TypeId × Value → H) : ∃ places, DataW.whole enc Try.prog ((laidWorld os).forCall (fun _ _ => 0) ⟨#[], #[Value.agg #[.int .i64 0, .int .i64 0, .int .i64 0, .int .i64 0], Value.slice none 0 0, Value.int .i64 0], []⟩).memory Try.f6.params.toList Rows.boxRectsSpec.vars false (#[Value.agg #[.int .i64 0, .int .i64 0, .int .i64 0, .int .i64 0], Value.slice none 0 0, Value.int .i64 0] : Array Value).toList 8 = some ([.agg [.lit (.int .i64 0), .lit (.int .i64 0), .lit (.int .i64 0), .lit (.int .i64 0)], .nil, .lit (.int .i64 0)], [], places) :=
  ⟨[], by kernel_rfl⟩

set_option maxRecDepth 100000 in
theorem lifted (os : Os) (started : os.Started) (H : Type) (enc : TypeId × Value → H) (F : Stop.Interp) :
    ReturnsInHanded {} Try.checked os 6 .any ((OpenSpec.ofChange Rows.boxRectsSpec).preRow enc Try.prog Try.f6 Rows.boxRectsRow.domain false Rows.boxRectsRow.laid) (((OpenSpec.ofChange Rows.boxRectsSpec).at F).post enc Try.prog Try.f6 false true false false) := by
  obtain ⟨places, hx⟩ := reads os enc
  refine returnsInHanded_of_row (C := Try.checked) (s := OpenSpec.ofChange Rows.boxRectsSpec) own started (by kernel_rfl) Try.func6
    (witness_row_at (enc := enc) (C := Try.checked) false (laidWorld os) #[Value.agg #[.int .i64 0, .int .i64 0, .int .i64 0, .int .i64 0], Value.slice none 0 0, Value.int .i64 0] rfl (by kernel_rfl) (by kernel_rfl) (by kernel_rfl)
      (OpenSpec.preRow_of_cond 8 hx (by kernel_rfl) (fun k hk => by cases hk) (by kernel_rfl) (laid_met os))) ?_
  intro W base args ds gs before hval hW _ _ hreach hL _ _
  exact contract H enc W base args ds gs before hval hW hL hreach

theorem said : Rows.BoxRectsSaid :=
  OpenClaim.holds_of_cond 6 Try.f6 rfl rfl rfl rfl rfl rfl rfl ⟨rfl, rfl, rfl, rfl, rfl⟩ rfl rfl rfl rfl rfl (by kernel_rfl) Try.func6 (by kernel_rfl)
    (of_decide_eq_true (by kernel_rfl)) (by unfold Func.isWrapper; first | (rw [if_pos (by decide +kernel)]; kernel_rfl) | (rw [if_neg (by decide +kernel)]; exact ⟨rfl, rfl⟩))
    (fun os started H enc _ F => by rw [OpenClaim.pre_eq_preRow]; exact lifted os started H enc F)

#print axioms said
end Go.Proofs.Ytdddpdfljjfaoaa.boxRects

/-
  StateCleans holds, whatever the input: the card of the statement, with the tables of the modes, of the renditions' parts, of the sets' faces and the library's three tables tied to the program's text.
-/
import Derived.Test.YtmhccngfmjggoaaGreatDoorCards
import Derived.Test.YtmhccngfmjggoaaGreatDoorTie
import Derived.Test.YtmhccngfmjggoaaGreatDoorFrameS
import Derived.Test.YtmhccngfmjggoaaGreatDoorStaI
namespace Go.Proofs.YtmhccngfmjggoaaGreatDoor.stateCleans
open Go.ChangeShapes Go.WideShapes Go.ChangeAt Go.RowKit
open Go.ChangeMaps (open_string)

theorem exec_eqA {P : Program} {o : Oper} {a : Act} (op : BinOp) (T : TypeId) (x y : Operand) (u : TypeId) (ho : o.op = .binOp op T x y u) {vx vy r : Value} {w : World} (hx : a.eval x = vx) (hy : a.eval y = vy)
    (hg : (eqGuard op T x y vx vy).run P w = .ok () w) (hb : (binOp op T vx vy).run P w = .ok r w) : (execOp a.eval o).run P w = .ok (.value r) w := by
  unfold execOp
  rw [ho]
  simp only [hx, hy, Sem.run_bind, hg, hb, Result.andThen_ok, Sem.run_pure]
set_option maxRecDepth 100000 in
set_option maxHeartbeats 8000000 in
theorem walk (x : Co) (mz : Int) (lo : 0 ≤ x.K.rd) (hi : x.K.rd ≤ 255) (rows cols : Int) (w : World) (ht : Tab w) (hfc : Faces w) (htn : Ten w) (hmd : Mods w) :
    Calls Tryz.prog 3 #[.agg (coZ x mz), .int .i64 rows, .int .i64 cols] w fun e w' => e = .returned (.bool true) ∧ Below w.heap.size w w' := by
  have HAw := Lib.hid (fun V t f n m => awakeS_any V t f n m)
  have HSm := Lib.hid (fun V => small_any x mz V)
  have hT := Lib.hid ht; have hF := Lib.hid hfc; have hN := Lib.hid htn; have hM := Lib.hid hmd
  have hS : (coZ x mz).size = 29 := rfl
  have HS := Lib.hid ((Bs.nil w).alloc 33 (coZ x mz))
  clear ht hfc htn hmd
  rcases hsm : smK x.f mz with _ | _
  · rw [hsm] at HSm
    generalize coZ x mz = X at *
    clear hsm lo hi
    go_enter Tryz.func3, Tryz.ntmps3
    go_wp2_with fail
    refine (HAw.out _ (hT.out.next HS.out.bel) (hF.out.next HS.out.bel) (hN.out.next HS.out.bel) (hM.out.next HS.out.bel)).mono ?_
    rintro e w1 ⟨rfl, hb⟩
    have HK1 := Lib.hid (HS.out.next hb)
    clear hb HS
    go_wp2_with (first | (refine wpList_load_row rfl _ _ rfl w.heap.size rfl _ X (0, 0) _ HK1.out.b0 under_cr rfl (by rw [hS]; exact info_cr) ?_))
    refine (HSm.out _).mono ?_
    rintro e w2 ⟨rfl, hb⟩
    have HK2 := Lib.hid (HK1.out.next hb)
    clear hb HK1
    go_wp2_with fail
    go_ret
    exact ⟨rfl, HK2.out.bel⟩
  · have hb : 0 ≤ mz ∧ mz < 4294967296 ∧ x.f.pb ≤ 60000 ∧ x.f.pr ≤ 60000 := by
      unfold smK at hsm
      simpa [Bool.and_eq_true, and_assoc] using hsm
    rw [hsm] at HSm
    obtain ⟨z, hz⟩ : ∃ z : Co, z = { x with m := mz.toNat } := ⟨_, rfl⟩
    have hzX : coZ x mz = coC .i64 z := by
      have e : ((mz.toNat : Nat) : Int) = mz := by omega
      subst hz
      unfold coZ coC
      simp only [e]
    have hzm : z.m < 2 ^ 32 := by subst hz; show mz.toNat < 2 ^ 32; omega
    obtain ⟨H, W, it, il, ib, ir, hfr⟩ := fr_ok z.f (by subst hz; exact hb.2.2.1) (by subst hz; exact hb.2.2.2)
    have lo' : 0 ≤ z.K.rd := by subst hz; exact lo
    have hi' : z.K.rd ≤ 255 := by subst hz; exact hi
    have HOw := Lib.hid (fun V => coOwn_any hzm V)
    have HCl := Lib.hid (fun V t f => cleanC_any hfr lo' hi' hzm V t f)
    have HRc := Lib.hid (fun V => refCleanC_any hfr lo' hi' V)
    have hym := (cl_ok hfr).m
    have HTo := Lib.hid (fun V => coTold_any (x := clnP z H W it il ib ir) (by omega) V)
    have HNw := Lib.hid (fun V t => coNew_any rows cols z.ps V t)
    have HNt := Lib.hid (fun V => coTold_any (x := newP rows cols z.ps) (by show 2948 < 2 ^ 32; omega) V)
    have HNr := Lib.hid (fun V => coNewRef_any rows cols z.ps V)
    have E1 := Lib.hid (fun V => eql_co V (clnP z H W it il ib ir)); have E2 := Lib.hid (fun V => eql_co V (newP rows cols z.ps))
    have G1 := Lib.hid (fun V op p q => guard_co V op p q (clnP z H W it il ib ir) (clnP z H W it il ib ir)); have G2 := Lib.hid (fun V op p q => guard_co V op p q (newP rows cols z.ps) (newP rows cols z.ps))
    rw [hzX] at HS HSm hS ⊢
    have hps : Hid ((coC .i64 z)[28]? = some (.int .i64 z.ps)) := Lib.hid rfl
    clear hzX hz hzm hfr lo' hi' hym hb hsm lo hi
    unfold coV at *
    generalize coC .u32 (clnP z H W it il ib ir) = YU at *
    generalize coC .i64 (clnP z H W it il ib ir) = YR at *
    generalize coC .u32 (newP rows cols z.ps) = NU at *
    generalize coC .i64 (newP rows cols z.ps) = NR at *
    generalize coC .u32 z = XU at *
    generalize coC .i64 z = X at *
    go_enter Tryz.func3, Tryz.ntmps3
    go_wp2_with fail
    refine (HAw.out _ (hT.out.next HS.out.bel) (hF.out.next HS.out.bel) (hN.out.next HS.out.bel) (hM.out.next HS.out.bel)).mono ?_
    rintro e w1 ⟨rfl, hb⟩
    have HK1 := Lib.hid (HS.out.next hb)
    clear hb HS
    go_wp2_with (first | (refine wpList_load_row rfl _ _ rfl w.heap.size rfl _ X (0, 0) _ HK1.out.b0 under_cr rfl (by rw [hS]; exact info_cr) ?_))
    refine (HSm.out _).mono ?_
    rintro e w2 ⟨rfl, hb⟩
    have HK2 := Lib.hid (HK1.out.next hb)
    clear hb HK1
    go_upto_region 5 with fail
    --#1
    have HX := Lib.hid (fun w' (h : Only [] w2 w') => h.blk HK2.out.b0 (by simp))
    have HP := Lib.hid (fun w' (h : Only [] w2 w') => (Blk.cell (HX.out w' h) 28).trans hps.out)
    have HTw := Lib.hid (fun w' (h : Only [] w2 w') => HK2.out.bel.trans (h.below0.mono HK2.out.bel.size))
    clear HAw HSm hps
    refine wp_region_mix_lit (by kernel_rfl) [(1, .call (.agg XU)), (2, .call (.agg YU)), (3, .call (.agg YR)), (5, .call (.agg YR)), (12, .call (.agg NU)), (13, .call (.agg NR)), (18, .call (.agg NR))] (by kernel_rfl) (by kernel_rfl) (by kernel_rfl) (by rfl) (by simp [apartK] <;> omega) (by simp [startK]) (by simp [stabK]) (⟨fun _ => undef, by simp [okK]⟩) (fun β hβ => ?_)
    refine lex_val (v := .agg X) rfl rfl (fun w' hf => exec_load_row _ (.tmp 3) rfl rfl (HX.out w' hf.only) under_cr rfl (by rw [hS]; exact info_cr)) ?_
    try simp only [Act.put, List.setIfInBounds_toArray, List.set_cons_zero, List.set_cons_succ]
    --#2
    refine lex_call (f := 10) (args := ?_) rfl rfl (fun w' hf => ?_) (fun w' hf => ?_) ?_
    rotate_left
    · go_simp
      try rfl
    · exact HOw.out w'
    try simp only [Act.put, List.setIfInBounds_toArray, List.set_cons_zero, List.set_cons_succ]
    refine lex_call (f := 11) (args := ?_) rfl rfl (fun w' hf => ?_) (fun w' hf => ?_) ?_
    rotate_left
    · go_simp
      try rfl
    · exact HCl.out w' (hT.out.next (HTw.out w' hf.only)) (hF.out.next (HTw.out w' hf.only))
    try simp only [Act.put, List.setIfInBounds_toArray, List.set_cons_zero, List.set_cons_succ]
    refine lex_call (f := 9) (args := ?_) rfl rfl (fun w' hf => ?_) (fun w' hf => ?_) ?_
    rotate_left
    · go_simp
      try rfl
    · exact HTo.out w'
    try simp only [Act.put, List.setIfInBounds_toArray, List.set_cons_zero, List.set_cons_succ]
    --#3
    refine lex_val (v := .agg X) rfl rfl (fun w' hf => exec_load_row _ (.tmp 3) rfl rfl (HX.out w' hf.only) under_cr rfl (by rw [hS]; exact info_cr)) ?_
    try simp only [Act.put, List.setIfInBounds_toArray, List.set_cons_zero, List.set_cons_succ]
    refine lex_call (f := 12) (args := ?_) rfl rfl (fun w' hf => ?_) (fun w' hf => ?_) ?_
    rotate_left
    · go_simp
      try rfl
    · exact HRc.out w'
    try simp only [Act.put, List.setIfInBounds_toArray, List.set_cons_zero, List.set_cons_succ]
    --#4
    refine lex_val (v := .bool true) rfl rfl (fun w' hf => exec_eqA .eql _ (.tmp 15) (.tmp 17) _ rfl rfl rfl (G1.out w' _ _ _) (E1.out w')) ?_
    try simp only [Act.put, List.setIfInBounds_toArray, List.set_cons_zero, List.set_cons_succ]
    repeat (
      refine lex_val (v := ?_) rfl rfl (fun w' hf => ?_) ?_
      rotate_left
      · have g3 := HP.out w' hf.only; go_simp
        try rfl
      try simp only [Act.put, List.setIfInBounds_toArray, List.set_cons_zero, List.set_cons_succ])
    --#5
    refine lex_call (f := 13) (args := ?_) rfl rfl (fun w' hf => ?_) (fun w' hf => ?_) ?_
    rotate_left
    · go_simp
      try rfl
    · exact HNw.out w' (hM.out.next (HTw.out w' hf.only))
    try simp only [Act.put, List.setIfInBounds_toArray, List.set_cons_zero, List.set_cons_succ]
    refine lex_call (f := 9) (args := ?_) rfl rfl (fun w' hf => ?_) (fun w' hf => ?_) ?_
    rotate_left
    · go_simp
      try rfl
    · exact HNt.out w'
    try simp only [Act.put, List.setIfInBounds_toArray, List.set_cons_zero, List.set_cons_succ]
    repeat (
      refine lex_val (v := ?_) rfl rfl (fun w' hf => ?_) ?_
      rotate_left
      · have g3 := HP.out w' hf.only; go_simp
        try rfl
      try simp only [Act.put, List.setIfInBounds_toArray, List.set_cons_zero, List.set_cons_succ])
    refine lex_call (f := 14) (args := ?_) rfl rfl (fun w' hf => ?_) (fun w' hf => ?_) ?_
    rotate_left
    · go_simp
      try rfl
    · exact HNr.out w'
    try simp only [Act.put, List.setIfInBounds_toArray, List.set_cons_zero, List.set_cons_succ]
    --#6
    refine lex_val (v := .bool true) rfl rfl (fun w' hf => exec_eqA .eql _ (.tmp 25) (.tmp 30) _ rfl rfl rfl (G2.out w' _ _ _) (E2.out w')) ?_
    try simp only [Act.put, List.setIfInBounds_toArray, List.set_cons_zero, List.set_cons_succ]
    repeat (
      refine lex_val (v := ?_) rfl rfl (fun w' hf => ?_) ?_
      rotate_left
      · go_simp
        try rfl
      try simp only [Act.put, List.setIfInBounds_toArray, List.set_cons_zero, List.set_cons_succ])
    refine lex_nil fun w3 he => ?_
    have hbe := Lib.hid (HTw.out w3 he.only)
    clear he hβ HX HP HTw
    --#7
    go_wp2_with fail
    go_ret
    exact ⟨rfl, hbe.out⟩

set_option maxRecDepth 100000 in
/-- What the walk gives, for every argument and every world that holds the table. -/
theorem contract (H : Type) (enc : TypeId × Value → H) (W : World) (base : Nat) (args : Array Value) (ds gs : List (DataW H)) (before : List MemPlace)
    (hval : ∀ (j : Nat) t v, Tryz.f3.params[j]? = some t → args[j]? = some v → Value.okWide Tryz.prog W .any base t v)
    (hW : DataW.Whole enc Tryz.prog Tryz.f3.params.toList Rows.stateCleansSpec.vars false W args.toList ds gs before) (hL : laidMetH Tryz.prog Rows.stateCleansRow.laid W)
    (hreach : (DataW.weightsEach Tryz.prog (Tryz.f3.params.toList ++ []) (ds ++ gs)).all (· ≤ reachBytes) = true) :
    Calls Tryz.prog 3 args W fun e W' => ∃ v, e = .returned v ∧ Rows.stateCleansSpec.post enc Tryz.prog Tryz.f3 false true false false W args v W' := by
  have hW' := hW
  have ht := tabS hL
  have hs := facesS hL
  have hn := tenS hL
  have hm := modsS hL
  have hlts : ∀ x ∈ before, x.block < W.heap.size := fun x hx => hW'.lt x hx
  obtain ⟨p, q, hA0, hV, rfl, hfz, hnd⟩ := hW
  have hA : DataW.TrodAll enc Tryz.prog W 0 (fun _ => true) true Tryz.f3.params.toList args.toList ds p := hA0
  rw [Tryz.params3] at hA hval hreach
  obtain ⟨v0, vs0, d0, ds0, pp0, qq0, hargs, rfl, rfl, h0, rr0⟩ := trodAll_cons hA
  obtain ⟨v1, vs1, d1, ds1, pp1, qq1, rfl, rfl, rfl, h1, rr1⟩ := trodAll_cons rr0
  obtain ⟨v2, vs2, d2, ds2, pp2, qq2, rfl, rfl, rfl, h2, rr2⟩ := trodAll_cons rr1
  obtain ⟨rfl, rfl, rfl⟩ := trodAll_nil rr2
  obtain rfl : args = #[v0, v1, v2] := by cases args; simp_all
  obtain ⟨rfl, rfl⟩ := trodVars_none hV
  obtain ⟨x0, mz0, rfl, lo0, hi0⟩ := core_in (hval 0 33 v0 rfl rfl) h0
  obtain ⟨a1, rfl, rfl, rfl, w1⟩ := open_int Tryz.underlying3 (hval 1 3 v1 rfl rfl) h1
  obtain ⟨a2, rfl, rfl, rfl, w2⟩ := open_int Tryz.underlying3 (hval 2 3 v2 rfl rfl) h2
  clear hA0
  refine (walk x0 mz0 lo0 hi0 a1 a2 W ht hs hn hm).mono fun e W' ⟨he, hb⟩ => ?_
  subst he
  exact ⟨_, rfl, post_law laidOut (by kernel_rfl) (by kernel_rfl) rfl hW' rfl hb⟩

set_option maxRecDepth 100000 in
theorem laid_met (os : Os) : laidMet Tryz.prog Rows.stateCleansRow.laid ((laidWorldS os).forCall (fun _ _ => 0) ⟨#[], #[Value.agg #[.int .i64 0, .int .i64 0, .int .u8 0, .bool false, .bool false, .bool false, .int .i64 0, .int .i64 0, .int .i64 0, .int .i64 0, .int .i64 0, .int .i64 0, .int .i64 0, .int .i64 0, .int .i64 0, .int .i64 0, .int .i64 0, .int .i64 0, .int .i64 0, .int .i64 0, .int .i64 0, .int .i64 0, .int .i64 0, .bool false, .bool false, .int .i64 0, .bool false, .int .i64 0, .int .i64 0], Value.int .i64 0, Value.int .i64 0], []⟩).memory :=
  laidMet_of_run' 8 (by kernel_rfl) (by kernel_rfl)
set_option maxRecDepth 100000 in
theorem reads (os : Os) {H : Type} (enc : TypeId × Value → H) : ∃ places, DataW.whole enc Tryz.prog ((laidWorldS os).forCall (fun _ _ => 0) ⟨#[], #[Value.agg #[.int .i64 0, .int .i64 0, .int .u8 0, .bool false, .bool false, .bool false, .int .i64 0, .int .i64 0, .int .i64 0, .int .i64 0, .int .i64 0, .int .i64 0, .int .i64 0, .int .i64 0, .int .i64 0, .int .i64 0, .int .i64 0, .int .i64 0, .int .i64 0, .int .i64 0, .int .i64 0, .int .i64 0, .int .i64 0, .bool false, .bool false, .int .i64 0, .bool false, .int .i64 0, .int .i64 0], Value.int .i64 0, Value.int .i64 0], []⟩).memory Tryz.f3.params.toList Rows.stateCleansSpec.vars false (#[Value.agg #[.int .i64 0, .int .i64 0, .int .u8 0, .bool false, .bool false, .bool false, .int .i64 0, .int .i64 0, .int .i64 0, .int .i64 0, .int .i64 0, .int .i64 0, .int .i64 0, .int .i64 0, .int .i64 0, .int .i64 0, .int .i64 0, .int .i64 0, .int .i64 0, .int .i64 0, .int .i64 0, .int .i64 0, .int .i64 0, .bool false, .bool false, .int .i64 0, .bool false, .int .i64 0, .int .i64 0], Value.int .i64 0, Value.int .i64 0] : Array Value).toList 8 = some ([.agg [.agg [.lit (.int .i64 0), .lit (.int .i64 0), .lit (.int .u8 0), .lit (.bool false), .lit (.bool false), .lit (.bool false), .agg [.agg [.lit (.int .i64 0), .lit (.int .i64 0), .lit (.int .i64 0), .lit (.int .i64 0)], .lit (.int .i64 0), .lit (.int .i64 0), .lit (.int .i64 0)]], .agg [.agg [.lit (.int .i64 0), .lit (.int .i64 0), .lit (.int .i64 0), .lit (.int .i64 0)], .agg [.lit (.int .i64 0), .lit (.int .i64 0), .lit (.int .i64 0), .lit (.int .i64 0)]], .lit (.int .i64 0), .lit (.int .i64 0), .lit (.bool false), .lit (.bool false), .lit (.int .i64 0), .lit (.bool false), .lit (.int .i64 0), .lit (.int .i64 0)], .lit (.int .i64 0), .lit (.int .i64 0)], [], places) :=
  ⟨[], by kernel_rfl⟩

set_option maxRecDepth 100000 in
theorem lifted (os : Os) (started : os.Started) (H : Type) (enc : TypeId × Value → H) (F : Stop.Interp) :
    ReturnsInHanded {} Tryz.checked os 3 .any ((OpenSpec.ofChange Rows.stateCleansSpec).preRow enc Tryz.prog Tryz.f3 Rows.stateCleansRow.domain false Rows.stateCleansRow.laid) (((OpenSpec.ofChange Rows.stateCleansSpec).at F).post enc Tryz.prog Tryz.f3 false true false false) := by
  obtain ⟨places, hx⟩ := reads os enc
  refine returnsInHanded_of_row (C := Tryz.checked) (s := OpenSpec.ofChange Rows.stateCleansSpec) own started (by kernel_rfl) Tryz.func3
    (witness_row_at (enc := enc) (C := Tryz.checked) false (laidWorldS os) #[Value.agg #[.int .i64 0, .int .i64 0, .int .u8 0, .bool false, .bool false, .bool false, .int .i64 0, .int .i64 0, .int .i64 0, .int .i64 0, .int .i64 0, .int .i64 0, .int .i64 0, .int .i64 0, .int .i64 0, .int .i64 0, .int .i64 0, .int .i64 0, .int .i64 0, .int .i64 0, .int .i64 0, .int .i64 0, .int .i64 0, .bool false, .bool false, .int .i64 0, .bool false, .int .i64 0, .int .i64 0], Value.int .i64 0, Value.int .i64 0] rfl (by kernel_rfl) (by kernel_rfl) (by kernel_rfl)
      (OpenSpec.preRow_of_cond 8 hx (by kernel_rfl) (fun k hk => by cases hk) (by kernel_rfl) (laid_met os))) ?_
  intro W base args ds gs before hval hW _ _ hreach hL _ _
  exact contract H enc W base args ds gs before hval hW hL hreach

theorem said : Rows.StateCleansSaid :=
  OpenClaim.holds_of_cond 3 Tryz.f3 rfl rfl rfl rfl rfl rfl rfl ⟨rfl, rfl, rfl, rfl, rfl⟩ rfl rfl rfl rfl rfl (by kernel_rfl) Tryz.func3 (by kernel_rfl)
    (of_decide_eq_true (by kernel_rfl)) (by unfold Func.isWrapper; first | (rw [if_pos (by decide +kernel)]; kernel_rfl) | (rw [if_neg (by decide +kernel)]; exact ⟨rfl, rfl⟩))
    (fun os started H enc _ F => by rw [OpenClaim.pre_eq_preRow]; exact lifted os started H enc F)

theorem plain (f : FuncId) (fn : Func) (hf : Tryz.pinned.checked.prog.funcNamed "phosphor/phosphorlaw19.StateCleans" = some f) (hfn : Tryz.pinned.checked.prog.funcs[f]? = some fn) :
    false = Tryz.pinned.checked.prog.looks [] ∧ ∀ (j : Nat) t, fn.params[j]? = some t → Tryz.pinned.checked.prog.wantsStandIn t = false := by
  obtain rfl : f = 3 := Option.some.inj ((show Tryz.prog.funcNamed "phosphor/phosphorlaw19.StateCleans" = some 3 by kernel_rfl).symm.trans hf) |>.symm
  obtain rfl : fn = Tryz.f3 := (Option.some.inj (Tryz.func3.symm.trans hfn)).symm
  refine ⟨by kernel_rfl, fun j t ht => ?_⟩
  rw [Tryz.params3] at ht
  have hm : t ∈ [33, 3, 3] := by simpa using Array.mem_of_getElem? ht
  have hall : ([33, 3, 3].all fun u => !Tryz.prog.wantsStandIn u) = true := by kernel_rfl
  exact (show Tryz.prog.wantsStandIn t = false by simpa using List.all_eq_true.1 hall t hm)

/-- The card. -/
theorem card : Rows.StateCleansCardSaid :=
  Claim7.holds_tied_plain_at .later [] _ _ _ _ said (fun _ h => by cases h) (by kernel_rfl) (fun _ h => by cases h) stateCleans_row_tie rfl ⟨rfl, rfl⟩ (by kernel_rfl) rfl plain (by kernel_rfl)
#print axioms card
end Go.Proofs.YtmhccngfmjggoaaGreatDoor.stateCleans

/-
  ParamParses holds, whatever the input: the card of the statement, with the library's three tables tied to the program's text.
-/
import Derived.Test.YtigifjbgjcnlaaaDoorCards
import Derived.Test.YtigifjbgjcnlaaaDoorTie
import Derived.Test.YtigifjbgjcnlaaaDoorFrameP
import Derived.Test.YtigifjbgjcnlaaaDoorAwakeP
import Derived.Test.YtigifjbgjcnlaaaDoorParV
namespace Go.Proofs.YtigifjbgjcnlaaaDoor.paramParses
open Go.ChangeShapes Go.WideShapes Go.ChangeAt Go.RowKit
open Go.ChangeMaps (open_string)

set_option maxHeartbeats 2000000 in
theorem walk (s : ByteArray) (hs : s.size ≤ maxLen) (w : World) (ht : Ten w) :
    Calls Tryd.prog 3 #[.string s] w fun e w' => e = .returned (.bool true) ∧ Below w.heap.size w w' := by
  unfold maxLen at hs
  obtain ⟨t, hts, hcase⟩ : ∃ t : ByteArray, t.size ≤ 2000 ∧ ((s = t ∧ ¬ 2000 < s.size) ∨ (s.extract 0 2000 = t ∧ 2000 < s.size)) := by
    by_cases h : 2000 < s.size
    · exact ⟨_, by simp; omega, .inr ⟨rfl, h⟩⟩
    · exact ⟨_, by omega, .inl ⟨rfl, h⟩⟩
  have HP := Lib.hid (parse_all t (by unfold maxLen; omega))
  have HR := Lib.hid (refParse_all t (by omega))
  obtain ⟨hin, hl30, her⟩ := parseV_range t.data.toList
  generalize (parseV t.data.toList).1 = ns at *
  generalize (parseV t.data.toList).2 = er at *
  have HIn := Lib.hid hin
  have hm : ns.length ≤ maxLen := by unfold maxLen; omega
  have HS := Lib.hid (fun A B c d W h1 h2 => sameInts_any A B c d ns ns hm hm W h1 h2)
  clear hin hm
  rcases hcase with ⟨rfl, hlen⟩ | ⟨he, hlen⟩
  all_goals
    rcases her with rfl | rfl
    all_goals
      go_enter Tryd.func3, Tryd.ntmps3
      go_wp2_with fail
      refine (awakeP_any _ ht).mono ?_
      rintro e w1 ⟨rfl, hb⟩
      go_wp2_with fail
      refine (HP.out _).mono ?_
      rintro e w2 ⟨⟨A2, c2, rfl, hown2⟩, hb2⟩
      have hr2 := OInts.reads hown2
      replace hb := hb.trans (hb2.mono hb.size); clear hb2 hown2
      go_wp2_with fail
      refine (HR.out _).mono ?_
      rintro e w3 ⟨⟨A3, c3, rfl, hown3⟩, hb3⟩
      have hr3 := OInts.reads hown3
      replace hr2 := hr2.next hb3
      replace hb := hb.trans (hb3.mono hb.size); clear hb3 hown3
      have HR2 := Lib.hid hr2; have HR3 := Lib.hid hr3; have HB := Lib.hid hb
      clear hr2 hr3 hb
      go_wp2_with fail
      refine (HS.out _ _ _ _ _ HR2.out HR3.out).mono ?_
      rintro e w4 ⟨rfl, hb4⟩
      have hr2 := HR2.out.next hb4
      have hbe : (ns == ns) = true := by simp
      rw [hbe]
      clear hbe
      go_wp2_with fail
      go_loop [37] (fun i => ∃ k : Nat, k ≤ ns.length ∧ i = .int .i64 k) (fun i => ns.length - (intOf i).toNat)
      case atStart => exact ⟨0, by omega, rfl⟩
      case round =>
        obtain ⟨k, hk, rfl⟩ := hrel
        by_cases hlt : k < ns.length
        · obtain ⟨ad, rfl, _, hcell⟩ := hr2.at_ hlt
          obtain ⟨x0, x1⟩ := HIn.out ns[k] (List.getElem_mem hlt)
          generalize ns[k] = x at *
          go_wp2_with fail
          go_round
          case rel => exact ⟨k + 1, by omega, by go_num⟩
          case measure => simp [intOf]; omega
        · obtain rfl : k = ns.length := by omega
          go_wp2_with fail
          go_ret
          exact ⟨by simp; omega, HB.out.trans (hb4.mono HB.out.size)⟩

/-- What the walk gives, for every argument and every world that holds the table. -/
theorem contract (H : Type) (enc : TypeId × Value → H) (W : World) (base : Nat) (args : Array Value) (ds gs : List (DataW H)) (before : List MemPlace)
    (hval : ∀ (j : Nat) t v, Tryd.f3.params[j]? = some t → args[j]? = some v → Value.okWide Tryd.prog W .any base t v)
    (hW : DataW.Whole enc Tryd.prog Tryd.f3.params.toList Rows.paramParsesSpec.vars false W args.toList ds gs before) (hL : laidMetH Tryd.prog Rows.paramParsesRow.laid W)
    (hreach : (DataW.weightsEach Tryd.prog (Tryd.f3.params.toList ++ []) (ds ++ gs)).all (· ≤ reachBytes) = true) :
    Calls Tryd.prog 3 args W fun e W' => ∃ v, e = .returned v ∧ Rows.paramParsesSpec.post enc Tryd.prog Tryd.f3 false true false false W args v W' := by
  have hW' := hW
  have ht := ten_of hL
  have hlts : ∀ x ∈ before, x.block < W.heap.size := fun x hx => hW'.lt x hx
  obtain ⟨p, q, hA0, hV, rfl, hfz, hnd⟩ := hW
  have hA : DataW.TrodAll enc Tryd.prog W 0 (fun _ => true) true Tryd.f3.params.toList args.toList ds p := hA0
  rw [Tryd.params3] at hA hval hreach
  obtain ⟨v0, vs0, d0, ds0, p0, q0, hargs, rfl, rfl, h0, r0⟩ := trodAll_cons hA
  obtain ⟨rfl, rfl, rfl⟩ := trodAll_nil r0
  obtain rfl : args = #[v0] := by cases args; simp_all
  obtain ⟨rfl, rfl⟩ := trodVars_none hV
  obtain ⟨s0, rfl, rfl, rfl, hs0⟩ := open_string Tryd.underlying9 (hval 0 9 v0 rfl rfl) h0
  clear hA0
  refine (walk s0 hs0 W ht).mono fun e W' ⟨he, hb⟩ => ?_
  subst he
  exact ⟨_, rfl, post_law laidOut (by kernel_rfl) (by kernel_rfl) rfl hW' rfl hb⟩

theorem laid_met (os : Os) : laidMet Tryd.prog Rows.paramParsesRow.laid ((laidWorld os).forCall (fun _ _ => 0) ⟨#[], #[Value.string ⟨#[]⟩], []⟩).memory :=
  laidMet_of_run' 8 (by kernel_rfl) (by kernel_rfl)
theorem reads (os : Os) {H : Type} (enc : TypeId × Value → H) : ∃ places, DataW.whole enc Tryd.prog ((laidWorld os).forCall (fun _ _ => 0) ⟨#[], #[Value.string ⟨#[]⟩], []⟩).memory Tryd.f3.params.toList Rows.paramParsesSpec.vars false (#[Value.string ⟨#[]⟩] : Array Value).toList 8 = some ([.lit (.string [])], [], places) :=
  ⟨[], by kernel_rfl⟩

set_option maxRecDepth 100000 in
theorem lifted (os : Os) (started : os.Started) (H : Type) (enc : TypeId × Value → H) (F : Stop.Interp) :
    ReturnsInHanded {} Tryd.checked os 3 .any ((OpenSpec.ofChange Rows.paramParsesSpec).preRow enc Tryd.prog Tryd.f3 Rows.paramParsesRow.domain false Rows.paramParsesRow.laid) (((OpenSpec.ofChange Rows.paramParsesSpec).at F).post enc Tryd.prog Tryd.f3 false true false false) := by
  obtain ⟨places, hx⟩ := reads os enc
  refine returnsInHanded_of_row (C := Tryd.checked) (s := OpenSpec.ofChange Rows.paramParsesSpec) own started (by kernel_rfl) Tryd.func3
    (witness_row_at (enc := enc) (C := Tryd.checked) false (laidWorld os) #[Value.string ⟨#[]⟩] rfl (by kernel_rfl) (by kernel_rfl) (by kernel_rfl)
      (OpenSpec.preRow_of_cond 8 hx (by kernel_rfl) (fun k hk => by cases hk) (by kernel_rfl) (laid_met os))) ?_
  intro W base args ds gs before hval hW _ _ hreach hL _ _
  exact contract H enc W base args ds gs before hval hW hL hreach

theorem said : Rows.ParamParsesSaid :=
  OpenClaim.holds_of_cond 3 Tryd.f3 rfl rfl rfl rfl rfl rfl rfl ⟨rfl, rfl, rfl, rfl, rfl⟩ rfl rfl rfl rfl rfl (by kernel_rfl) Tryd.func3 (by kernel_rfl)
    (of_decide_eq_true (by kernel_rfl)) (by unfold Func.isWrapper; first | (rw [if_pos (by decide +kernel)]; kernel_rfl) | (rw [if_neg (by decide +kernel)]; exact ⟨rfl, rfl⟩))
    (fun os started H enc _ F => by rw [OpenClaim.pre_eq_preRow]; exact lifted os started H enc F)

theorem plain (f : FuncId) (fn : Func) (hf : Tryd.pinned.checked.prog.funcNamed "phosphor/phosphorlaw04.ParamParses" = some f) (hfn : Tryd.pinned.checked.prog.funcs[f]? = some fn) :
    false = Tryd.pinned.checked.prog.looks [] ∧ ∀ (j : Nat) t, fn.params[j]? = some t → Tryd.pinned.checked.prog.wantsStandIn t = false := by
  obtain rfl : f = 3 := Option.some.inj ((show Tryd.prog.funcNamed "phosphor/phosphorlaw04.ParamParses" = some 3 by kernel_rfl).symm.trans hf) |>.symm
  obtain rfl : fn = Tryd.f3 := (Option.some.inj (Tryd.func3.symm.trans hfn)).symm
  refine ⟨by kernel_rfl, fun j t ht => ?_⟩
  rw [Tryd.params3] at ht
  have hm : t ∈ [9] := by simpa using Array.mem_of_getElem? ht
  have hall : ([9].all fun u => !Tryd.prog.wantsStandIn u) = true := by kernel_rfl
  exact (show Tryd.prog.wantsStandIn t = false by simpa using List.all_eq_true.1 hall t hm)

/-- The card. -/
theorem card : Rows.ParamParsesCardSaid :=
  Claim7.holds_tied_plain_at .later [] _ _ _ _ said (fun _ h => by cases h) (by kernel_rfl) (fun _ h => by cases h) paramParses_row_tie rfl ⟨rfl, rfl⟩ (by kernel_rfl) rfl plain (by kernel_rfl)
#print axioms card
end Go.Proofs.YtigifjbgjcnlaaaDoor.paramParses

/-
  MacroDecodes holds, whatever the input: the card of the statement, with the library's three tables and its two errors tied to the program's text.
-/
import Derived.Test.YthldjjmfiaeekaaDoorCards
import Derived.Test.YthldjjmfiaeekaaDoorTie
import Derived.Test.YthldjjmfiaeekaaDoorFrameH
import Derived.Test.YthldjjmfiaeekaaDoorMacF
namespace Go.Proofs.YthldjjmfiaeekaaDoor.macroDecodes
open Go.ChangeShapes Go.WideShapes Go.ChangeAt Go.RowKit
open Go.ChangeMaps (open_string)

set_option maxRecDepth 100000 in
set_option maxHeartbeats 8000000 in
theorem walk (s : ByteArray) (_hs : s.size ≤ maxLen) (mz : Int) (_hmz : -9223372036854775808 ≤ mz ∧ mz ≤ 9223372036854775807) (w : World) (_ht : Ten w) (he : ErrS w) :
    Calls Tryd.prog 4 #[.string s, .int .i64 mz] w fun e w' => e = .returned (.bool true) ∧ Below w.heap.size w w' := by
  clear _ht
  have HAw := Lib.hid (macAwake_any w he)
  have HE := Lib.hid he
  have HSh := Lib.hid (fun W => shortM_any s _hs 400 (by omega) W)
  obtain ⟨m0, hm0⟩ : ∃ m0 : Int, m0 = if 7000 < mz then 7000 else mz := ⟨_, rfl⟩
  have hm7 : m0 ≤ 7000 := by rw [hm0]; split <;> omega
  obtain ⟨M, hM⟩ : ∃ M : Nat, (if m0 ≤ 0 then 0 else m0) = (M : Int) := ⟨(if m0 ≤ 0 then 0 else m0).toNat, by split <;> omega⟩
  have hM7 : M ≤ 100000 := by split at hM <;> omega
  have hmx : max m0 0 = (M : Int) := by rw [← hM]; split <;> omega
  have HD := Lib.hid (fun t h W g => decode_any t h M hM7 m0 hM W g)
  have HR := Lib.hid (fun t h W => refDecode_any t h M hM7 m0 hM W)
  clear he _hs hM
  go_enter Tryd.func4, Tryd.ntmps4
  go_wp2_with fail
  refine HAw.out.mono ?_
  rintro e w1 ⟨rfl, hb⟩
  have HB1 := Lib.hid hb
  clear hb HAw
  go_wp2_with fail
  refine (HSh.out _).mono ?_
  rintro e w2 ⟨⟨t, ht1, ht2, rfl, _⟩, rfl⟩
  have HDt := Lib.hid (fun W g => HD.out t (by omega) W g)
  have HRt := Lib.hid (fun W => HR.out t (by omega) W)
  have hlen := dcF_len (t.size + 1) M [] (natL t.data.toList) (by simp)
  generalize dcF (t.size + 1) M [] (natL t.data.toList) = p at *
  obtain ⟨z, l⟩ := p
  have hxs : (bstr l).size ≤ M := by rw [bstr_size]; exact hlen.1
  have HDn : Hid (∀ W, ErrS W → Calls Tryd.prog 17 #[.string t, .int .i64 m0] W fun e w' => e = .returned (.tuple #[.string (bstr l), .int .i64 z]) ∧ Below W.heap.size W w') := Lib.hid (fun W g => HDt.out W g)
  have HRn : Hid (∀ W, Calls Tryd.prog 18 #[.string t, .int .i64 m0] W fun e w' => e = .returned (.tuple #[.string (bstr l), .int .i64 z]) ∧ Below W.heap.size W w') := Lib.hid (fun W => HRt.out W)
  generalize bstr l = x at *
  have hxi : (x.size : Int) ≤ (M : Int) := by omega
  clear hlen HD HR HDt HRt HSh hxs
  --#1
  go_upto_if 14 with fail
  go_cut [1] (fun v wx => v = .int .i64 m0 ∧ w1 = wx)
  case first =>
    by_cases h7 : 7000 < mz
    · go_wp2_with fail
      go_meet
      exact ⟨congrArg (Value.int .i64) (by rw [hm0, if_pos (by omega)]), rfl⟩
    · have h7n : mz ≤ 7000 := by omega
      go_wp2_with fail
      go_meet
      exact ⟨congrArg (Value.int .i64) (by rw [hm0, if_neg (by omega)]), rfl⟩
  case rest =>
    obtain ⟨rfl, rfl⟩ := hcut
    clear hm0
    go_wp2_with fail
    refine (HDn.out _ (HE.out.next HB1.out)).mono ?_
    rintro e w3 ⟨rfl, hb⟩
    have HB3 := Lib.hid (HB1.out.trans (hb.mono HB1.out.size))
    clear hb
    go_wp2_with fail
    refine (HRn.out _).mono ?_
    rintro e w4 ⟨rfl, hb⟩
    have HB4 := Lib.hid (HB3.out.trans (hb.mono HB3.out.size))
    clear hb
    go_wp2_with fail
    go_ret
    exact ⟨rfl, HB4.out⟩

set_option maxRecDepth 100000 in
/-- What the walk gives, for every argument and every world that holds the table. -/
theorem contract (H : Type) (enc : TypeId × Value → H) (W : World) (base : Nat) (args : Array Value) (ds gs : List (DataW H)) (before : List MemPlace)
    (hval : ∀ (j : Nat) t v, Tryd.f4.params[j]? = some t → args[j]? = some v → Value.okWide Tryd.prog W .any base t v)
    (hW : DataW.Whole enc Tryd.prog Tryd.f4.params.toList Rows.macroDecodesSpec.vars false W args.toList ds gs before) (hL : laidMetH Tryd.prog Rows.macroDecodesRow.laid W)
    (hreach : (DataW.weightsEach Tryd.prog (Tryd.f4.params.toList ++ []) (ds ++ gs)).all (· ≤ reachBytes) = true) :
    Calls Tryd.prog 4 args W fun e W' => ∃ v, e = .returned v ∧ Rows.macroDecodesSpec.post enc Tryd.prog Tryd.f4 false true false false W args v W' := by
  have hW' := hW
  have ht := tenH hL
  have hs := errH hL
  have hlts : ∀ x ∈ before, x.block < W.heap.size := fun x hx => hW'.lt x hx
  obtain ⟨p, q, hA0, hV, rfl, hfz, hnd⟩ := hW
  have hA : DataW.TrodAll enc Tryd.prog W 0 (fun _ => true) true Tryd.f4.params.toList args.toList ds p := hA0
  rw [Tryd.params4] at hA hval hreach
  obtain ⟨v0, vs0, d0, ds0, pp0, qq0, hargs, rfl, rfl, h0, rr0⟩ := trodAll_cons hA
  obtain ⟨v1, vs1, d1, ds1, pp1, qq1, rfl, rfl, rfl, h1, rr1⟩ := trodAll_cons rr0
  obtain ⟨rfl, rfl, rfl⟩ := trodAll_nil rr1
  obtain rfl : args = #[v0, v1] := by cases args; simp_all
  obtain ⟨rfl, rfl⟩ := trodVars_none hV
  obtain ⟨s0, rfl, rfl, rfl, hs0⟩ := open_string Tryd.underlying9 (hval 0 9 v0 rfl rfl) h0
  obtain ⟨a1, rfl, rfl, rfl, w1⟩ := open_int Tryd.underlying3 (hval 1 3 v1 rfl rfl) h1
  have lo1 := bounds_i64 w1
  clear hA0
  refine (walk s0 hs0 a1 lo1 W ht hs).mono fun e W' ⟨he, hb⟩ => ?_
  subst he
  exact ⟨_, rfl, post_law laidOut (by kernel_rfl) (by kernel_rfl) rfl hW' rfl hb⟩

set_option maxRecDepth 100000 in
theorem laid_met (os : Os) : laidMet Tryd.prog Rows.macroDecodesRow.laid ((laidWorldH os).forCall (fun _ _ => 0) ⟨#[], #[Value.string ⟨#[]⟩, Value.int .i64 0], []⟩).memory :=
  laid_metH os _
set_option maxRecDepth 100000 in
theorem reads (os : Os) {H : Type} (enc : TypeId × Value → H) : ∃ places, DataW.whole enc Tryd.prog ((laidWorldH os).forCall (fun _ _ => 0) ⟨#[], #[Value.string ⟨#[]⟩, Value.int .i64 0], []⟩).memory Tryd.f4.params.toList Rows.macroDecodesSpec.vars false (#[Value.string ⟨#[]⟩, Value.int .i64 0] : Array Value).toList 8 = some ([.lit (.string []), .lit (.int .i64 0)], [], places) :=
  ⟨[], by kernel_rfl⟩

set_option maxRecDepth 100000 in
theorem lifted (os : Os) (started : os.Started) (H : Type) (enc : TypeId × Value → H) (F : Stop.Interp) :
    ReturnsInHanded {} Tryd.checked os 4 .any ((OpenSpec.ofChange Rows.macroDecodesSpec).preRow enc Tryd.prog Tryd.f4 Rows.macroDecodesRow.domain false Rows.macroDecodesRow.laid) (((OpenSpec.ofChange Rows.macroDecodesSpec).at F).post enc Tryd.prog Tryd.f4 false true false false) := by
  obtain ⟨places, hx⟩ := reads os enc
  refine returnsInHanded_of_row (C := Tryd.checked) (s := OpenSpec.ofChange Rows.macroDecodesSpec) own started (by kernel_rfl) Tryd.func4
    (witness_row_atRef (enc := enc) (C := Tryd.checked) false (laidWorldH os) #[Value.string ⟨#[]⟩, Value.int .i64 0] rfl (by kernel_rfl) (by kernel_rfl) (by kernel_rfl)
      (OpenSpec.preRow_of_cond 8 hx (by kernel_rfl) (fun k hk => by cases hk) (by kernel_rfl) (laid_met os))) ?_
  intro W base args ds gs before hval hW _ _ hreach hL _ _
  exact contract H enc W base args ds gs before hval hW hL hreach

theorem said : Rows.MacroDecodesSaid :=
  OpenClaim.holds_of_cond 4 Tryd.f4 rfl rfl rfl rfl rfl rfl rfl ⟨rfl, rfl, rfl, rfl, rfl⟩ rfl rfl rfl rfl rfl (by kernel_rfl) Tryd.func4 (by kernel_rfl)
    (of_decide_eq_true (by kernel_rfl)) (by unfold Func.isWrapper; first | (rw [if_pos (by decide +kernel)]; kernel_rfl) | (rw [if_neg (by decide +kernel)]; exact ⟨rfl, rfl⟩))
    (fun os started H enc _ F => by rw [OpenClaim.pre_eq_preRow]; exact lifted os started H enc F)

theorem plain (f : FuncId) (fn : Func) (hf : Tryd.pinned.checked.prog.funcNamed "phosphor/phosphorlaw20.MacroDecodes" = some f) (hfn : Tryd.pinned.checked.prog.funcs[f]? = some fn) :
    true = Tryd.pinned.checked.prog.looks [] ∧ ∀ (j : Nat) t, fn.params[j]? = some t → Tryd.pinned.checked.prog.wantsStandIn t = false := by
  obtain rfl : f = 4 := Option.some.inj ((show Tryd.prog.funcNamed "phosphor/phosphorlaw20.MacroDecodes" = some 4 by kernel_rfl).symm.trans hf) |>.symm
  obtain rfl : fn = Tryd.f4 := (Option.some.inj (Tryd.func4.symm.trans hfn)).symm
  refine ⟨by kernel_rfl, fun j t ht => ?_⟩
  rw [Tryd.params4] at ht
  have hm : t ∈ [9, 3] := by simpa using Array.mem_of_getElem? ht
  have hall : ([9, 3].all fun u => !Tryd.prog.wantsStandIn u) = true := by kernel_rfl
  exact (show Tryd.prog.wantsStandIn t = false by simpa using List.all_eq_true.1 hall t hm)

/-- The card. -/
theorem card : Rows.MacroDecodesCardSaid :=
  Claim7.holds_tied_plain_at .later [] _ _ _ _ said (fun _ h => by cases h) (by kernel_rfl) (fun _ h => by cases h) macroDecodes_row_tie rfl ⟨rfl, rfl⟩ (by kernel_rfl) rfl plain (by kernel_rfl)
#print axioms card
end Go.Proofs.YthldjjmfiaeekaaDoor.macroDecodes

/-
  RendSays holds, whatever the input: the card of the statement, with the table of parts tied to the program's text.
-/
import Derived.Test.YtdjbfnhgendacaaDoorCards
import Derived.Test.YtdjbfnhgendacaaDoorTie
import Derived.Test.YtdjbfnhgendacaaDoorFrameB
import Derived.Test.YtdjbfnhgendacaaDoorAwake
import Derived.Test.YtdjbfnhgendacaaDoorRendA
import Derived.Test.YtdjbfnhgendacaaDoorRendI
import Derived.Test.YtdjbfnhgendacaaDoorRendJ
import Derived.Test.YtdjbfnhgendacaaDoorLetB
namespace Go.Proofs.YtdjbfnhgendacaaDoor.rendSays
open Go.ChangeShapes Go.WideShapes Go.ChangeAt Go.RowKit
open Go.ChangeMaps (open_string)

set_option maxHeartbeats 1600000 in
theorem walk (a : Int) (a0 : 0 ≤ a) (a1 : a ≤ 255) (s : ByteArray) (hs : s.size ≤ maxLen) (w : World) (ht : Tab w) :
    Calls Tryd.prog 8 #[.int .u8 a, .string s] w fun e w' => e = .returned (.bool true) ∧ Below w.heap.size w w' := by
  have HS := Lib.hid hs
  clear hs
  have hls : (letS a).size ≤ maxLen := by rw [letS_size]; have := letN_len a 5; unfold maxLen; omega
  have HL := Lib.hid hls
  clear hls
  have HP := Lib.hid (fromP_letS a0 a1)
  go_enter Tryd.func8, Tryd.ntmps8
  go_wp2_with fail
  refine (awake_any _ ht).mono ?_
  rintro e w1 ⟨rfl, hb⟩
  go_wp2_with fail
  refine (letters_any a a0 a1 _ (ht.next hb)).mono ?_
  rintro e w2 ⟨rfl, hb'⟩
  replace hb := hb.trans (hb'.mono hb.size); clear hb'
  go_wp2_with fail
  refine (fromLetters_any (letS a) HL.out _ (ht.next hb)).mono ?_
  rintro e w3 ⟨rfl, hb'⟩
  replace hb := hb.trans (hb'.mono hb.size); clear hb'
  rw [HP.out]
  go_wp2_with fail
  refine (params_any a a0 a1 _ (ht.next hb)).mono ?_
  rintro e w4 ⟨v, rfl, hown, hb'⟩
  replace hb := hb.trans (hb'.mono hb.size); clear hb'
  obtain ⟨A, c, rfl⟩ := hown.form
  have hr := hown.reads
  clear hown
  have hpl := parK_len a 5
  have HAp := Lib.hid (apply_par (f := 0) a0 a1)
  have hlen : ((parK a 5).length : Int) = (letS a).size + 1 := by rw [par_letN_len, letS_size]; omega
  have HLen := Lib.hid hlen
  clear hlen
  go_wp2_with fail
  refine (apply_any 0 (by omega) (by omega) A c (parK a 5) (by unfold maxLen; omega) _ (ht.next hb) hr).mono ?_
  rintro e w4 ⟨rfl, hb'⟩
  replace hb := hb.trans (hb'.mono hb.size); clear hb'
  rw [HAp.out]
  clear hr
  go_wp2_with fail
  refine (params_any a a0 a1 _ (ht.next hb)).mono ?_
  rintro e w6 ⟨v, rfl, hown, hb'⟩
  replace hb := hb.trans (hb'.mono hb.size); clear hb'
  obtain ⟨A2, c2, rfl⟩ := hown.form
  clear hown
  go_wp2_with fail
  refine (letters_any a a0 a1 _ (ht.next hb)).mono ?_
  rintro e w5 ⟨rfl, hb'⟩
  replace hb := hb.trans (hb'.mono hb.size); clear hb'
  have hz : (letS a).size ≤ 5 := by rw [letS_size]; exact letN_len a 5
  have hne : (((parK a 5).length : Int) != (letS a).size + 1) = false := by rw [HLen.out]; simp
  go_wp2_with fail
  clear hne hz hpl
  refine (fromLetters_any s HS.out _ (ht.next hb)).mono ?_
  rintro e w8 ⟨rfl, hb'⟩
  replace hb := hb.trans (hb'.mono hb.size); clear hb'
  by_cases h : (fromAt s 5).1 < s.size
  · rw [fromP_no h]
    clear h
    go_wp2_with fail
    go_ret
    exact ⟨rfl, hb⟩
  · rw [fromP_yes h]
    have HB := Lib.hid (from_back h)
    obtain ⟨_, _, r0, r1⟩ := fromAt_range s 5 (Nat.le_refl _)
    clear h
    generalize (fromAt s 5).2 = r at *
    have hr255 : r ≤ 255 := by omega
    go_wp2_with fail
    refine (letters_any r r0 hr255 _ (ht.next hb)).mono ?_
    rintro e w6 ⟨rfl, hb'⟩
    replace hb := hb.trans (hb'.mono hb.size); clear hb'
    rw [HB.out]
    go_wp2_with fail
    refine (weight_any r r0 hr255 _ (ht.next hb)).mono ?_
    rintro e w7 ⟨rfl, hb'⟩
    replace hb := hb.trans (hb'.mono hb.size); clear hb'
    go_wp2_with fail
    refine (refWeight_any r r0 hr255 _).mono ?_
    rintro e w8 ⟨rfl, hb'⟩
    replace hb := hb.trans (hb'.mono hb.size); clear hb'
    go_wp2_with fail
    go_ret
    exact ⟨by simp, hb⟩

/-- What the walk gives, for every argument and every world that holds the table. -/
theorem contract (H : Type) (enc : TypeId × Value → H) (W : World) (base : Nat) (args : Array Value) (ds gs : List (DataW H)) (before : List MemPlace)
    (hval : ∀ (j : Nat) t v, Tryd.f8.params[j]? = some t → args[j]? = some v → Value.okWide Tryd.prog W .any base t v)
    (hW : DataW.Whole enc Tryd.prog Tryd.f8.params.toList Rows.rendSaysSpec.vars false W args.toList ds gs before) (hL : laidMetH Tryd.prog Rows.rendSaysRow.laid W)
    (hreach : (DataW.weightsEach Tryd.prog (Tryd.f8.params.toList ++ []) (ds ++ gs)).all (· ≤ reachBytes) = true) :
    Calls Tryd.prog 8 args W fun e W' => ∃ v, e = .returned v ∧ Rows.rendSaysSpec.post enc Tryd.prog Tryd.f8 false true false false W args v W' := by
  have hW' := hW
  have ht := tab_of hL
  have hlts : ∀ x ∈ before, x.block < W.heap.size := fun x hx => hW'.lt x hx
  obtain ⟨p, q, hA0, hV, rfl, hfz, hnd⟩ := hW
  have hA : DataW.TrodAll enc Tryd.prog W 0 (fun _ => true) true Tryd.f8.params.toList args.toList ds p := hA0
  rw [Tryd.params8] at hA hval hreach
  obtain ⟨v0, vs0, d0, ds0, p0, q0, hargs, rfl, rfl, h0, r0⟩ := trodAll_cons hA
  obtain ⟨v1, vs1, d1, ds1, p1, q1, rfl, rfl, rfl, h1, r1⟩ := trodAll_cons r0
  obtain ⟨rfl, rfl, rfl⟩ := trodAll_nil r1
  obtain rfl : args = #[v0, v1] := by cases args; simp_all
  obtain ⟨rfl, rfl⟩ := trodVars_none hV
  obtain ⟨a0, rfl, rfl, rfl, w0⟩ := open_int Tryd.underlying22 (hval 0 22 v0 rfl rfl) h0
  obtain ⟨lo0, hi0⟩ := bounds_u8 w0
  obtain ⟨s1, rfl, rfl, rfl, hs1⟩ := open_string Tryd.underlying9 (hval 1 9 v1 rfl rfl) h1
  clear hA0
  refine (walk a0 lo0 hi0 s1 hs1 W ht).mono fun e W' ⟨he, hb⟩ => ?_
  subst he
  exact ⟨_, rfl, post_law laidOut (by kernel_rfl) (by kernel_rfl) rfl hW' rfl hb⟩

theorem laid_met (os : Os) : laidMet Tryd.prog Rows.rendSaysRow.laid ((laidWorld os).forCall (fun _ _ => 0) ⟨#[], #[Value.int .u8 0, Value.string ⟨#[]⟩], []⟩).memory :=
  laidMet_of_run' 8 (by kernel_rfl) (by kernel_rfl)
theorem reads (os : Os) {H : Type} (enc : TypeId × Value → H) : ∃ places, DataW.whole enc Tryd.prog ((laidWorld os).forCall (fun _ _ => 0) ⟨#[], #[Value.int .u8 0, Value.string ⟨#[]⟩], []⟩).memory Tryd.f8.params.toList Rows.rendSaysSpec.vars false (#[Value.int .u8 0, Value.string ⟨#[]⟩] : Array Value).toList 8 = some ([.lit (.int .u8 0), .lit (.string [])], [], places) :=
  ⟨[], by kernel_rfl⟩

set_option maxRecDepth 100000 in
theorem lifted (os : Os) (started : os.Started) (H : Type) (enc : TypeId × Value → H) (F : Stop.Interp) :
    ReturnsInHanded {} Tryd.checked os 8 .any ((OpenSpec.ofChange Rows.rendSaysSpec).preRow enc Tryd.prog Tryd.f8 Rows.rendSaysRow.domain false Rows.rendSaysRow.laid) (((OpenSpec.ofChange Rows.rendSaysSpec).at F).post enc Tryd.prog Tryd.f8 false true false false) := by
  obtain ⟨places, hx⟩ := reads os enc
  refine returnsInHanded_of_row (C := Tryd.checked) (s := OpenSpec.ofChange Rows.rendSaysSpec) own started (by kernel_rfl) Tryd.func8
    (witness_row_at (enc := enc) (C := Tryd.checked) false (laidWorld os) #[Value.int .u8 0, Value.string ⟨#[]⟩] rfl (by kernel_rfl) (by kernel_rfl) (by kernel_rfl)
      (OpenSpec.preRow_of_cond 8 hx (by kernel_rfl) (fun k hk => by cases hk) (by kernel_rfl) (laid_met os))) ?_
  intro W base args ds gs before hval hW _ _ hreach hL _ _
  exact contract H enc W base args ds gs before hval hW hL hreach

theorem said : Rows.RendSaysSaid :=
  OpenClaim.holds_of_cond 8 Tryd.f8 rfl rfl rfl rfl rfl rfl rfl ⟨rfl, rfl, rfl, rfl, rfl⟩ rfl rfl rfl rfl rfl (by kernel_rfl) Tryd.func8 (by kernel_rfl)
    (of_decide_eq_true (by kernel_rfl)) (by unfold Func.isWrapper; first | (rw [if_pos (by decide +kernel)]; kernel_rfl) | (rw [if_neg (by decide +kernel)]; exact ⟨rfl, rfl⟩))
    (fun os started H enc _ F => by rw [OpenClaim.pre_eq_preRow]; exact lifted os started H enc F)

theorem plain (f : FuncId) (fn : Func) (hf : Tryd.pinned.checked.prog.funcNamed "phosphor/phosphorlaw01.RendSays" = some f) (hfn : Tryd.pinned.checked.prog.funcs[f]? = some fn) :
    false = Tryd.pinned.checked.prog.looks [] ∧ ∀ (j : Nat) t, fn.params[j]? = some t → Tryd.pinned.checked.prog.wantsStandIn t = false := by
  obtain rfl : f = 8 := Option.some.inj ((show Tryd.prog.funcNamed "phosphor/phosphorlaw01.RendSays" = some 8 by kernel_rfl).symm.trans hf) |>.symm
  obtain rfl : fn = Tryd.f8 := (Option.some.inj (Tryd.func8.symm.trans hfn)).symm
  refine ⟨by kernel_rfl, fun j t ht => ?_⟩
  rw [Tryd.params8] at ht
  have hm : t ∈ [22, 9] := by simpa using Array.mem_of_getElem? ht
  have hall : ([22, 9].all fun u => !Tryd.prog.wantsStandIn u) = true := by kernel_rfl
  exact (show Tryd.prog.wantsStandIn t = false by simpa using List.all_eq_true.1 hall t hm)

/-- The card. -/
theorem card : Rows.RendSaysCardSaid :=
  Claim7.holds_tied_plain_at .later [] _ _ _ _ said (fun _ h => by cases h) (by kernel_rfl) (fun _ h => by cases h) rendSays_row_tie rfl ⟨rfl, rfl⟩ (by kernel_rfl) rfl plain (by kernel_rfl)
#print axioms card
end Go.Proofs.YtdjbfnhgendacaaDoor.rendSays

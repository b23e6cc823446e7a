/-
  CharsetIds holds, whatever the input: the card of the statement, with the table of the sets' faces and the library's two tables of blanks tied to the program's text.
-/
import Derived.Test.YtmpbalocohoihaaDoorCards
import Derived.Test.YtmpbalocohoihaaDoorTie
import Derived.Test.YtmpbalocohoihaaDoorFrameW
import Derived.Test.YtmpbalocohoihaaDoorChsJ
import Derived.Test.YtmpbalocohoihaaDoorChsP
namespace Go.Proofs.YtmpbalocohoihaaDoor.charsetIds
open Go.ChangeShapes Go.WideShapes Go.ChangeAt Go.RowKit
open Go.ChangeMaps (open_string)

theorem wide_x (x : Int) : (x == 5) = wideP (setN x) := by
  by_cases h : 1 ≤ x ∧ x ≤ 17
  · obtain ⟨e, h1, h2⟩ := setN_in x h
    rw [← wide_eq (setN x) h1 h2, e]
  · rw [setN_out x h, beq_eq_false_iff_ne.2 (by omega)]
    rfl
set_option maxRecDepth 100000 in
set_option maxHeartbeats 8000000 in
theorem walk (x : Int) (w : World) (ht : Faces w) (hs : Blanks w) :
    Calls Tryd.prog 5 #[.int .i64 x] w fun e w' => e = .returned (.bool true) ∧ Below w.heap.size w w' := by
  have HAw := Lib.hid (fun W t => awake_any W t)
  have HI := Lib.hid (fun W t => id_any x W t)
  have HRI := Lib.hid (fun W => refId_any x W)
  have HRW := Lib.hid (fun W => refWide_any2 x W)
  have HN := Lib.hid (fun W t => name_any x W t)
  have HRN := Lib.hid (fun W => refName_any x W)
  have HNa := Lib.hid (fun W => national_any x W)
  have HF := Lib.hid (fun W t s => find_any (wideP (setN x)) (idP (setN x)) W t s)
  rw [id_back (setN x) (setN_lt x)] at HF
  rw [wide_x x] at HRW
  have HT := Lib.hid ht
  have HS := Lib.hid hs
  clear ht hs
  have hcs : (decide (1 ≤ x) = false ∧ decide (6 ≤ x) = false ∧ natB x = false ∧ setN x = 0) ∨ (decide (1 ≤ x) = true ∧ decide (x ≤ 17) = false ∧ decide (6 ≤ x) = true ∧ natB x = false ∧ setN x = 0) ∨ (decide (1 ≤ x) = true ∧ decide (x ≤ 17) = true ∧ decide (6 ≤ x) = false ∧ natB x = false ∧ ((setN x : Nat) : Int) = x ∧ (setN x != 0) = true) ∨ (decide (1 ≤ x) = true ∧ decide (x ≤ 17) = true ∧ decide (6 ≤ x) = true ∧ natB x = true ∧ ((setN x : Nat) : Int) = x ∧ (setN x != 0) = true) := by
    unfold natB
    by_cases h : 1 ≤ x ∧ x ≤ 17
    · obtain ⟨e, h1, h2⟩ := setN_in x h
      by_cases h6 : 6 ≤ x
      · exact .inr (.inr (.inr ⟨by simp; omega, by simp; omega, by simp; omega, by simp; omega, e, by simp; omega⟩))
      · exact .inr (.inr (.inl ⟨by simp; omega, by simp; omega, by simp; omega, by simp; omega, e, by simp; omega⟩))
    · rw [setN_out x h]
      by_cases h1 : 1 ≤ x
      · exact .inr (.inl ⟨by simpa using h1, by simp; omega, by simp; omega, by simp; omega, rfl⟩)
      · exact .inl ⟨by simpa using h1, by simp; omega, by simp; omega, rfl⟩
  rcases hcs with ⟨g1, g6, gn, gk⟩ | ⟨g1, g2, g6, gn, gk⟩ | ⟨g1, g2, g6, gn, gk, gz⟩ | ⟨g1, g2, g6, gn, gk, gz⟩
  · generalize setN x = k at *
    generalize idP k = id at *
    generalize wideP k = wd at *
    generalize nmP k = nm at *
    rw [gn] at HNa
    rw [gk, show ((0 : Nat) != 0) = false from rfl] at HF
    clear gk
    clear gn
    go_enter Tryd.func5, Tryd.ntmps5
    go_wp2_with fail
    refine (HAw.out _ HT.out).mono ?_
    rintro e w1 ⟨rfl, hb1⟩
    have HT1 := Lib.hid (HT.out.next hb1); have HS1 := Lib.hid (HS.out.next hb1); have HB1 := Lib.hid hb1
    clear hb1
    go_wp2_with fail
    refine (HI.out _ HT1.out).mono ?_
    rintro e w2 ⟨rfl, hb2⟩
    have HT2 := Lib.hid (HT1.out.next hb2); have HS2 := Lib.hid (HS1.out.next hb2); have HB2 := Lib.hid (HB1.out.trans (hb2.mono HB1.out.size))
    clear hb2
    go_wp2_with fail
    refine (HRI.out _).mono ?_
    rintro e w3 ⟨rfl, rfl⟩
    go_wp2_with fail
    refine (HRW.out _).mono ?_
    rintro e w3 ⟨rfl, rfl⟩
    go_wp2_with fail
    refine (HN.out _ HT2.out).mono ?_
    rintro e w3 ⟨rfl, hb3⟩
    have HT3 := Lib.hid (HT2.out.next hb3); have HS3 := Lib.hid (HS2.out.next hb3); have HB3 := Lib.hid (HB2.out.trans (hb3.mono HB2.out.size))
    clear hb3
    go_wp2_with fail
    refine (HRN.out _).mono ?_
    rintro e w4 ⟨rfl, rfl⟩
    go_wp2_with fail
    refine (HNa.out _).mono ?_
    rintro e w4 ⟨rfl, rfl⟩
    go_wp2_with fail
    refine (HF.out _ HT3.out HS3.out).mono ?_
    rintro e w4 ⟨rfl, hb4⟩
    have HB4 := Lib.hid (HB3.out.trans (hb4.mono HB3.out.size))
    clear hb4
    go_wp2_with fail
    go_ret
    exact ⟨rfl, HB4.out⟩
  · generalize setN x = k at *
    generalize idP k = id at *
    generalize wideP k = wd at *
    generalize nmP k = nm at *
    rw [gn] at HNa
    rw [gk, show ((0 : Nat) != 0) = false from rfl] at HF
    clear gk
    clear gn
    go_enter Tryd.func5, Tryd.ntmps5
    go_wp2_with fail
    refine (HAw.out _ HT.out).mono ?_
    rintro e w1 ⟨rfl, hb1⟩
    have HT1 := Lib.hid (HT.out.next hb1); have HS1 := Lib.hid (HS.out.next hb1); have HB1 := Lib.hid hb1
    clear hb1
    go_wp2_with fail
    refine (HI.out _ HT1.out).mono ?_
    rintro e w2 ⟨rfl, hb2⟩
    have HT2 := Lib.hid (HT1.out.next hb2); have HS2 := Lib.hid (HS1.out.next hb2); have HB2 := Lib.hid (HB1.out.trans (hb2.mono HB1.out.size))
    clear hb2
    go_wp2_with fail
    refine (HRI.out _).mono ?_
    rintro e w3 ⟨rfl, rfl⟩
    go_wp2_with fail
    refine (HRW.out _).mono ?_
    rintro e w3 ⟨rfl, rfl⟩
    go_wp2_with fail
    refine (HN.out _ HT2.out).mono ?_
    rintro e w3 ⟨rfl, hb3⟩
    have HT3 := Lib.hid (HT2.out.next hb3); have HS3 := Lib.hid (HS2.out.next hb3); have HB3 := Lib.hid (HB2.out.trans (hb3.mono HB2.out.size))
    clear hb3
    go_wp2_with fail
    refine (HRN.out _).mono ?_
    rintro e w4 ⟨rfl, rfl⟩
    go_wp2_with fail
    refine (HNa.out _).mono ?_
    rintro e w4 ⟨rfl, rfl⟩
    go_wp2_with fail
    refine (HF.out _ HT3.out HS3.out).mono ?_
    rintro e w4 ⟨rfl, hb4⟩
    have HB4 := Lib.hid (HB3.out.trans (hb4.mono HB3.out.size))
    clear hb4
    go_wp2_with fail
    go_ret
    exact ⟨rfl, HB4.out⟩
  · generalize setN x = k at *
    generalize idP k = id at *
    generalize wideP k = wd at *
    generalize nmP k = nm at *
    rw [gn] at HNa
    rw [gk, gz] at HF
    clear gk gz
    clear gn
    go_enter Tryd.func5, Tryd.ntmps5
    go_wp2_with fail
    refine (HAw.out _ HT.out).mono ?_
    rintro e w1 ⟨rfl, hb1⟩
    have HT1 := Lib.hid (HT.out.next hb1); have HS1 := Lib.hid (HS.out.next hb1); have HB1 := Lib.hid hb1
    clear hb1
    go_wp2_with fail
    refine (HI.out _ HT1.out).mono ?_
    rintro e w2 ⟨rfl, hb2⟩
    have HT2 := Lib.hid (HT1.out.next hb2); have HS2 := Lib.hid (HS1.out.next hb2); have HB2 := Lib.hid (HB1.out.trans (hb2.mono HB1.out.size))
    clear hb2
    go_wp2_with fail
    refine (HRI.out _).mono ?_
    rintro e w3 ⟨rfl, rfl⟩
    go_wp2_with fail
    refine (HRW.out _).mono ?_
    rintro e w3 ⟨rfl, rfl⟩
    go_wp2_with fail
    refine (HN.out _ HT2.out).mono ?_
    rintro e w3 ⟨rfl, hb3⟩
    have HT3 := Lib.hid (HT2.out.next hb3); have HS3 := Lib.hid (HS2.out.next hb3); have HB3 := Lib.hid (HB2.out.trans (hb3.mono HB2.out.size))
    clear hb3
    go_wp2_with fail
    refine (HRN.out _).mono ?_
    rintro e w4 ⟨rfl, rfl⟩
    go_wp2_with fail
    refine (HNa.out _).mono ?_
    rintro e w4 ⟨rfl, rfl⟩
    go_wp2_with fail
    refine (HF.out _ HT3.out HS3.out).mono ?_
    rintro e w4 ⟨rfl, hb4⟩
    have HB4 := Lib.hid (HB3.out.trans (hb4.mono HB3.out.size))
    clear hb4
    go_wp2_with fail
    go_ret
    exact ⟨rfl, HB4.out⟩
  · generalize setN x = k at *
    generalize idP k = id at *
    generalize wideP k = wd at *
    generalize nmP k = nm at *
    rw [gn] at HNa
    rw [gk, gz] at HF
    clear gk gz
    clear gn
    go_enter Tryd.func5, Tryd.ntmps5
    go_wp2_with fail
    refine (HAw.out _ HT.out).mono ?_
    rintro e w1 ⟨rfl, hb1⟩
    have HT1 := Lib.hid (HT.out.next hb1); have HS1 := Lib.hid (HS.out.next hb1); have HB1 := Lib.hid hb1
    clear hb1
    go_wp2_with fail
    refine (HI.out _ HT1.out).mono ?_
    rintro e w2 ⟨rfl, hb2⟩
    have HT2 := Lib.hid (HT1.out.next hb2); have HS2 := Lib.hid (HS1.out.next hb2); have HB2 := Lib.hid (HB1.out.trans (hb2.mono HB1.out.size))
    clear hb2
    go_wp2_with fail
    refine (HRI.out _).mono ?_
    rintro e w3 ⟨rfl, rfl⟩
    go_wp2_with fail
    refine (HRW.out _).mono ?_
    rintro e w3 ⟨rfl, rfl⟩
    go_wp2_with fail
    refine (HN.out _ HT2.out).mono ?_
    rintro e w3 ⟨rfl, hb3⟩
    have HT3 := Lib.hid (HT2.out.next hb3); have HS3 := Lib.hid (HS2.out.next hb3); have HB3 := Lib.hid (HB2.out.trans (hb3.mono HB2.out.size))
    clear hb3
    go_wp2_with fail
    refine (HRN.out _).mono ?_
    rintro e w4 ⟨rfl, rfl⟩
    go_wp2_with fail
    refine (HNa.out _).mono ?_
    rintro e w4 ⟨rfl, rfl⟩
    go_wp2_with fail
    refine (HF.out _ HT3.out HS3.out).mono ?_
    rintro e w4 ⟨rfl, hb4⟩
    have HB4 := Lib.hid (HB3.out.trans (hb4.mono HB3.out.size))
    clear hb4
    go_wp2_with fail
    go_ret
    exact ⟨rfl, HB4.out⟩

set_option maxRecDepth 100000 in
/-- What the walk gives, for every argument and every world that holds the table. -/
theorem contract (H : Type) (enc : TypeId × Value → H) (W : World) (base : Nat) (args : Array Value) (ds gs : List (DataW H)) (before : List MemPlace)
    (hval : ∀ (j : Nat) t v, Tryd.f5.params[j]? = some t → args[j]? = some v → Value.okWide Tryd.prog W .any base t v)
    (hW : DataW.Whole enc Tryd.prog Tryd.f5.params.toList Rows.charsetIdsSpec.vars false W args.toList ds gs before) (hL : laidMetH Tryd.prog Rows.charsetIdsRow.laid W)
    (hreach : (DataW.weightsEach Tryd.prog (Tryd.f5.params.toList ++ []) (ds ++ gs)).all (· ≤ reachBytes) = true) :
    Calls Tryd.prog 5 args W fun e W' => ∃ v, e = .returned v ∧ Rows.charsetIdsSpec.post enc Tryd.prog Tryd.f5 false true false false W args v W' := by
  have hW' := hW
  have ht := facesB hL
  have hs := blanksB hL
  have hlts : ∀ x ∈ before, x.block < W.heap.size := fun x hx => hW'.lt x hx
  obtain ⟨p, q, hA0, hV, rfl, hfz, hnd⟩ := hW
  have hA : DataW.TrodAll enc Tryd.prog W 0 (fun _ => true) true Tryd.f5.params.toList args.toList ds p := hA0
  rw [Tryd.params5] at hA hval hreach
  obtain ⟨v0, vs0, d0, ds0, pp0, qq0, hargs, rfl, rfl, h0, rr0⟩ := trodAll_cons hA
  obtain ⟨rfl, rfl, rfl⟩ := trodAll_nil rr0
  obtain rfl : args = #[v0] := by cases args; simp_all
  obtain ⟨rfl, rfl⟩ := trodVars_none hV
  obtain ⟨a0, rfl, rfl, rfl, w0⟩ := open_int Tryd.underlying3 (hval 0 3 v0 rfl rfl) h0
  clear hA0
  refine (walk a0 W ht hs).mono fun e W' ⟨he, hb⟩ => ?_
  subst he
  exact ⟨_, rfl, post_law laidOut (by kernel_rfl) (by kernel_rfl) rfl hW' rfl hb⟩

set_option maxRecDepth 100000 in
theorem laid_met (os : Os) : laidMet Tryd.prog Rows.charsetIdsRow.laid ((laidWorldB os).forCall (fun _ _ => 0) ⟨#[], #[Value.int .i64 0], []⟩).memory :=
  laid_metB os _
set_option maxRecDepth 100000 in
theorem reads (os : Os) {H : Type} (enc : TypeId × Value → H) : ∃ places, DataW.whole enc Tryd.prog ((laidWorldB os).forCall (fun _ _ => 0) ⟨#[], #[Value.int .i64 0], []⟩).memory Tryd.f5.params.toList Rows.charsetIdsSpec.vars false (#[Value.int .i64 0] : Array Value).toList 8 = some ([.lit (.int .i64 0)], [], places) :=
  ⟨[], by kernel_rfl⟩

set_option maxRecDepth 100000 in
theorem lifted (os : Os) (started : os.Started) (H : Type) (enc : TypeId × Value → H) (F : Stop.Interp) :
    ReturnsInHanded {} Tryd.checked os 5 .any ((OpenSpec.ofChange Rows.charsetIdsSpec).preRow enc Tryd.prog Tryd.f5 Rows.charsetIdsRow.domain false Rows.charsetIdsRow.laid) (((OpenSpec.ofChange Rows.charsetIdsSpec).at F).post enc Tryd.prog Tryd.f5 false true false false) := by
  obtain ⟨places, hx⟩ := reads os enc
  refine returnsInHanded_of_row (C := Tryd.checked) (s := OpenSpec.ofChange Rows.charsetIdsSpec) own started (by kernel_rfl) Tryd.func5
    (witness_row_atRef (enc := enc) (C := Tryd.checked) false (laidWorldB os) #[Value.int .i64 0] rfl (by kernel_rfl) (by kernel_rfl) (by kernel_rfl)
      (OpenSpec.preRow_of_cond 8 hx (by kernel_rfl) (fun k hk => by cases hk) (by kernel_rfl) (laid_met os))) ?_
  intro W base args ds gs before hval hW _ _ hreach hL _ _
  exact contract H enc W base args ds gs before hval hW hL hreach

theorem said : Rows.CharsetIdsSaid :=
  OpenClaim.holds_of_cond 5 Tryd.f5 rfl rfl rfl rfl rfl rfl rfl ⟨rfl, rfl, rfl, rfl, rfl⟩ rfl rfl rfl rfl rfl (by kernel_rfl) Tryd.func5 (by kernel_rfl)
    (of_decide_eq_true (by kernel_rfl)) (by unfold Func.isWrapper; first | (rw [if_pos (by decide +kernel)]; kernel_rfl) | (rw [if_neg (by decide +kernel)]; exact ⟨rfl, rfl⟩))
    (fun os started H enc _ F => by rw [OpenClaim.pre_eq_preRow]; exact lifted os started H enc F)

theorem plain (f : FuncId) (fn : Func) (hf : Tryd.pinned.checked.prog.funcNamed "phosphor/phosphorlaw09.CharsetIds" = some f) (hfn : Tryd.pinned.checked.prog.funcs[f]? = some fn) :
    false = Tryd.pinned.checked.prog.looks [] ∧ ∀ (j : Nat) t, fn.params[j]? = some t → Tryd.pinned.checked.prog.wantsStandIn t = false := by
  obtain rfl : f = 5 := Option.some.inj ((show Tryd.prog.funcNamed "phosphor/phosphorlaw09.CharsetIds" = some 5 by kernel_rfl).symm.trans hf) |>.symm
  obtain rfl : fn = Tryd.f5 := (Option.some.inj (Tryd.func5.symm.trans hfn)).symm
  refine ⟨by kernel_rfl, fun j t ht => ?_⟩
  rw [Tryd.params5] at ht
  have hm : t ∈ [3] := by simpa using Array.mem_of_getElem? ht
  have hall : ([3].all fun u => !Tryd.prog.wantsStandIn u) = true := by kernel_rfl
  exact (show Tryd.prog.wantsStandIn t = false by simpa using List.all_eq_true.1 hall t hm)

/-- The card. -/
theorem card : Rows.CharsetIdsCardSaid :=
  Claim7.holds_tied_plain_at .later [] _ _ _ _ said (fun _ h => by cases h) (by kernel_rfl) (fun _ h => by cases h) charsetIds_row_tie rfl ⟨rfl, rfl⟩ (by kernel_rfl) rfl plain (by kernel_rfl)
#print axioms card
end Go.Proofs.YtmpbalocohoihaaDoor.charsetIds

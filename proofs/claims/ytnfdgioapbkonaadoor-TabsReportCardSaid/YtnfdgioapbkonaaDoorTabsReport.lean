/-
  TabsReport holds, whatever the input: the card of the statement, with the library's three tables tied to the program's text.
-/
import Derived.Test.YtnfdgioapbkonaaDoorCards
import Derived.Test.YtnfdgioapbkonaaDoorTie
import Derived.Test.YtnfdgioapbkonaaDoorFrameQ
import Derived.Test.YtnfdgioapbkonaaDoorTabP
import Derived.Test.YtnfdgioapbkonaaDoorTabR
import Derived.Test.YtnfdgioapbkonaaDoorTabS
import Derived.Test.YtnfdgioapbkonaaDoorTabU
import Derived.Test.YtnfdgioapbkonaaDoorFrameT
namespace Go.Proofs.YtnfdgioapbkonaaDoor.tabsReport
open Go.ChangeShapes Go.WideShapes Go.ChangeAt Go.RowKit
open Go.ChangeMaps (open_string)

theorem cols_same (m : Nat) (hm : m ≤ 500) : colsT (m : Int) = m := by unfold colsT; omega
set_option maxRecDepth 100000 in
set_option maxHeartbeats 8000000 in
theorem walk (A : Option Addr) (c : Nat) (acts : List Ac) (hl : acts.length ≤ maxLen) (A' : Option Addr) (c' : Nat) (others : List Ac) (hl' : others.length ≤ maxLen) (w : World) (ht : Ten w) (hr : RActs w A acts) (hr' : RActs w A' others) :
    Calls Tryd.prog 3 #[.slice A acts.length c, .slice A' others.length c'] w fun e w' => e = .returned (.bool true) ∧ Below w.heap.size w w' := by
  have HAw := Lib.hid (fun W => awake_any W)
  have HPl := Lib.hid (fun W h => played_any 60 A c acts hl W h)
  have HPl' := Lib.hid (fun W h => played_any 60 A' c' others hl' W h)
  have HR := Lib.hid hr
  have HR' := Lib.hid hr'
  have HTen := Lib.hid ht
  clear hr hr' ht hl hl'
  generalize acts.length = na at *
  generalize others.length = nb at *
  go_enter Tryd.func3, Tryd.ntmps3
  go_wp2_with fail
  refine (HAw.out _).mono ?_
  rintro e w1 ⟨rfl, hb1⟩
  have HB1 := Lib.hid hb1
  clear hb1
  go_wp2_with fail
  refine (HPl.out _ (HR.out.next HB1.out)).mono ?_
  rintro e w2 ⟨B, v, l, rfl, hB, hp⟩
  obtain ⟨A2, c2, rfl⟩ := OBools.form hp.own
  have hlen := hp.len
  have HP2 := Lib.hid hp
  have HB2 := Lib.hid (bstp HB1.out hp.below)
  have hBl := hp.st.lt
  clear hp
  go_wp2_with fail
  refine (HPl'.out _ (HR'.out.next HB2.out)).mono ?_
  rintro e w3 ⟨C, v', l', rfl, hC, hp'⟩
  obtain ⟨A3, c3, rfl⟩ := OBools.form hp'.own
  have HB23 := Lib.hid hp'.below
  have HB3 := Lib.hid (bstp HB2.out hp'.below)
  have HSt := Lib.hid hp'.st
  have hlen' := hp'.len
  have HSs := Lib.hid (HP2.out.st.next hp'.below)
  have HRd := Lib.hid (HP2.out.reads.next hp'.below)
  have hCw : w.heap.size ≤ C := Nat.le_trans HB2.out.size hC
  have hne : B ≠ C := by omega
  have hCl := hp'.st.lt
  clear hp' HP2
  have HRep := Lib.hid (fun W s t => report_any B l.length (hOf l) W s t)
  have HRR := Lib.hid (fun W h => refReport_any A2 c2 l hlen W h)
  obtain ⟨out, hout, hol, hoe⟩ := rst_all l hlen
  have hsz : (repB (lstP (hOf l) l.length)).size ≤ 100000 := by
    have h1 := repB_size (lstP (hOf l) l.length) (fun x hx => by have := lstP_mem _ _ x hx; omega)
    have h2 := lstP_len (hOf l) l.length
    omega
  have HRst := Lib.hid (fun h W st => restore_any C l.length h (repB (lstP (hOf l) l.length)) hsz W st)
  rw [hout] at HRst
  have HRep2 : Hid (∀ W, Stp W C l.length (hOf out) → Ten W → Calls Tryd.prog 7 #[.pointer (some ⟨C, 0, none⟩)] W fun e w' => e = .returned (.string (repB (lstP (hOf l) l.length))) ∧ Below W.heap.size W w') := Lib.hid (fun W s t => by
    have := report_any C l.length (hOf out) W s t
    rwa [lstP_congr (hOf out) (hOf l) l.length (fun d _ => hoe d)] at this)
  have HLi := Lib.hid (fun W s => list_any B l.length (hOf l) W s)
  have HLi2 : Hid (∀ W, Stp W C l.length (hOf out) → Calls Tryd.prog 13 #[.pointer (some ⟨C, 0, none⟩)] W fun e w' => ∃ v, e = .returned v ∧ OInts w' W.heap.size v (lstP (hOf l) l.length) ∧ Below W.heap.size W w') := Lib.hid (fun W s => by
    have := list_any C l.length (hOf out) W s
    rwa [lstP_congr (hOf out) (hOf l) l.length (fun d _ => hoe d)] at this)
  have HCo := Lib.hid (fun W s => cols_any B l.length (hOf l) W s)
  have HRz := Lib.hid (fun W s => resize_any C l'.length (hOf l') (l.length : Int) W s)
  rw [cols_same l.length hlen] at HRz
  have hml := lstP_len (hOf l) l.length
  have HSa := Lib.hid (same_list (lstP (hOf l) l.length) (by omega))
  clear hout hoe hsz
  generalize repB (lstP (hOf l) l.length) = T at *
  generalize lstP (hOf l) l.length = L at *
  go_wp2_with fail
  refine (HRep.out _ HSs.out (HTen.out.next HB3.out)).mono ?_
  rintro e w4 ⟨rfl, hb4⟩
  have HB4 := Lib.hid (bstp HB3.out hb4)
  have HSs4 := Lib.hid (HSs.out.next hb4); have HSt4 := Lib.hid (HSt.out.next hb4); have HRd4 := Lib.hid (HRd.out.next hb4)
  clear hb4 HSs HSt HRd
  go_wp2_with fail
  refine (HRR.out _ HRd4.out).mono ?_
  rintro e w5 ⟨rfl, hb5⟩
  have HB5 := Lib.hid (bstp HB4.out hb5)
  have HSs5 := Lib.hid (HSs4.out.next hb5); have HSt5 := Lib.hid (HSt4.out.next hb5)
  clear hb5 HSs4 HSt4 HRd4
  go_wp2_with fail
  refine (HCo.out _ HSs5.out).mono ?_
  rintro e w6 ⟨rfl, hb6⟩
  have HB6 := Lib.hid (bstp HB5.out hb6)
  have HSs6 := Lib.hid (HSs5.out.next hb6); have HSt6 := Lib.hid (HSt5.out.next hb6)
  clear hb6 HSs5 HSt5
  go_wp2_with fail
  refine (HRz.out _ HSt6.out).mono ?_
  rintro e w7 ⟨rfl, hst7, hg7⟩
  have HB7 := Lib.hid (HB6.out.grown hg7 HB6.out.size (fun k hk => by injection hk with hk; omega))
  have HSs7 := Lib.hid (stp_grown HSs6.out hg7 hne)
  have HSt7 := Lib.hid hst7
  clear hg7 hst7 HSs6 HSt6 HRz
  go_wp2_with fail
  refine (HRst.out _ _ HSt7.out).mono ?_
  rintro e w8 ⟨hg8, hz⟩
  obtain ⟨out', e1, hol', rfl, hst8⟩ | ⟨e1, _⟩ := hz
  rotate_left
  · cases e1
  · injection e1 with e1
    subst e1
    have HB8 := Lib.hid (HB7.out.grown hg8 HB7.out.size (fun k hk => by injection hk with hk; omega))
    have HSs8 := Lib.hid (stp_grown HSs7.out hg8 hne)
    have HSt8 := Lib.hid hst8
    clear hg8 hst8 HSs7 HSt7 HRst
    go_wp2_with fail
    refine (HLi2.out _ HSt8.out).mono ?_
    rintro e w9 ⟨v9, rfl, ho9, hb9⟩
    have HB9 := Lib.hid (bstp HB8.out hb9)
    have HSs9 := Lib.hid (HSs8.out.next hb9); have HSt9 := Lib.hid (HSt8.out.next hb9)
    have HO9 := Lib.hid ho9
    clear hb9 ho9 HSs8 HSt8
    obtain ⟨Aa, ca, rfl⟩ := OInts.form HO9.out
    go_wp2_with fail
    refine (HLi.out _ HSs9.out).mono ?_
    rintro e w10 ⟨v10, rfl, ho10, hb10⟩
    have HB10 := Lib.hid (bstp HB9.out hb10)
    have HSt10 := Lib.hid (HSt9.out.next hb10)
    have HO10 := Lib.hid ho10
    have HO9' := Lib.hid (HO9.out.next hb10)
    clear hb10 ho10 HSs9 HSt9
    obtain ⟨Ab, cb, rfl⟩ := OInts.form HO10.out
    go_wp2_with fail
    refine (HSa.out Aa Ab ca cb _ (OInts.reads HO9'.out) (OInts.reads HO10.out)).mono ?_
    rintro e w11 ⟨rfl, hb11⟩
    have HB11 := Lib.hid (bstp HB10.out hb11)
    have HSt11 := Lib.hid (HSt10.out.next hb11)
    clear hb11 HSt10
    go_wp2_with fail
    refine (HRep2.out _ HSt11.out (HTen.out.next HB11.out)).mono ?_
    rintro e w12 ⟨rfl, hb12⟩
    have HB12 := Lib.hid (bstp HB11.out hb12)
    clear hb12
    go_wp2_with fail
    go_ret
    exact ⟨rfl, HB12.out⟩

/-- What the walk gives, for every argument and every world that holds the table. -/
theorem contract (H : Type) (enc : TypeId × Value → H) (W : World) (base : Nat) (args : Array Value) (ds gs : List (DataW H)) (before : List MemPlace)
    (hval : ∀ (j : Nat) t v, Tryd.f3.params[j]? = some t → args[j]? = some v → Value.okWide Tryd.prog W .any base t v)
    (hW : DataW.Whole enc Tryd.prog Tryd.f3.params.toList Rows.tabsReportSpec.vars false W args.toList ds gs before) (hL : laidMetH Tryd.prog Rows.tabsReportRow.laid W)
    (hreach : (DataW.weightsEach Tryd.prog (Tryd.f3.params.toList ++ []) (ds ++ gs)).all (· ≤ reachBytes) = true) :
    Calls Tryd.prog 3 args W fun e W' => ∃ v, e = .returned v ∧ Rows.tabsReportSpec.post enc Tryd.prog Tryd.f3 false true false false W args v W' := by
  have hW' := hW
  have ht := ten_of hL
  have hlts : ∀ x ∈ before, x.block < W.heap.size := fun x hx => hW'.lt x hx
  obtain ⟨p, q, hA0, hV, rfl, hfz, hnd⟩ := hW
  have hA : DataW.TrodAll enc Tryd.prog W 0 (fun _ => true) true Tryd.f3.params.toList args.toList ds p := hA0
  rw [Tryd.params3] at hA hval hreach
  obtain ⟨v0, vs0, d0, ds0, pp0, qq0, hargs, rfl, rfl, h0, rr0⟩ := trodAll_cons hA
  obtain ⟨v1, vs1, d1, ds1, pp1, qq1, rfl, rfl, rfl, h1, rr1⟩ := trodAll_cons rr0
  obtain ⟨rfl, rfl, rfl⟩ := trodAll_nil rr1
  obtain rfl : args = #[v0, v1] := by cases args; simp_all
  obtain ⟨rfl, rfl⟩ := trodVars_none hV
  obtain ⟨b0, len0, cap0, rfl⟩ := okWide_slice Tryd.underlying22 (hval 0 22 v0 rfl rfl)
  obtain ⟨l0, hlen0, hm0, hri0⟩ := acts_in h0
  subst hlen0
  obtain ⟨b1, len1, cap1, rfl⟩ := okWide_slice Tryd.underlying22 (hval 1 22 v1 rfl rfl)
  obtain ⟨l1, hlen1, hm1, hri1⟩ := acts_in h1
  subst hlen1
  clear hA0
  refine (walk b0 cap0 l0 hm0 b1 cap1 l1 hm1 W ht hri0 hri1).mono fun e W' ⟨he, hb⟩ => ?_
  subst he
  exact ⟨_, rfl, post_law laidOut (by kernel_rfl) (by kernel_rfl) rfl hW' rfl hb⟩

theorem laid_met (os : Os) : laidMet Tryd.prog Rows.tabsReportRow.laid ((laidWorld os).forCall (fun _ _ => 0) ⟨#[], #[Value.slice none 0 0, Value.slice none 0 0], []⟩).memory :=
  laidMet_of_run' 8 (by kernel_rfl) (by kernel_rfl)
theorem reads (os : Os) {H : Type} (enc : TypeId × Value → H) : ∃ places, DataW.whole enc Tryd.prog ((laidWorld os).forCall (fun _ _ => 0) ⟨#[], #[Value.slice none 0 0, Value.slice none 0 0], []⟩).memory Tryd.f3.params.toList Rows.tabsReportSpec.vars false (#[Value.slice none 0 0, Value.slice none 0 0] : Array Value).toList 8 = some ([.nil, .nil], [], places) :=
  ⟨[], by kernel_rfl⟩

set_option maxRecDepth 100000 in
theorem lifted (os : Os) (started : os.Started) (H : Type) (enc : TypeId × Value → H) (F : Stop.Interp) :
    ReturnsInHanded {} Tryd.checked os 3 .any ((OpenSpec.ofChange Rows.tabsReportSpec).preRow enc Tryd.prog Tryd.f3 Rows.tabsReportRow.domain false Rows.tabsReportRow.laid) (((OpenSpec.ofChange Rows.tabsReportSpec).at F).post enc Tryd.prog Tryd.f3 false true false false) := by
  obtain ⟨places, hx⟩ := reads os enc
  refine returnsInHanded_of_row (C := Tryd.checked) (s := OpenSpec.ofChange Rows.tabsReportSpec) own started (by kernel_rfl) Tryd.func3
    (witness_row_at (enc := enc) (C := Tryd.checked) false (laidWorld os) #[Value.slice none 0 0, Value.slice none 0 0] rfl (by kernel_rfl) (by kernel_rfl) (by kernel_rfl)
      (OpenSpec.preRow_of_cond 8 hx (by kernel_rfl) (fun k hk => by cases hk) (by kernel_rfl) (laid_met os))) ?_
  intro W base args ds gs before hval hW _ _ hreach hL _ _
  exact contract H enc W base args ds gs before hval hW hL hreach

theorem said : Rows.TabsReportSaid :=
  OpenClaim.holds_of_cond 3 Tryd.f3 rfl rfl rfl rfl rfl rfl rfl ⟨rfl, rfl, rfl, rfl, rfl⟩ rfl rfl rfl rfl rfl (by kernel_rfl) Tryd.func3 (by kernel_rfl)
    (of_decide_eq_true (by kernel_rfl)) (by unfold Func.isWrapper; first | (rw [if_pos (by decide +kernel)]; kernel_rfl) | (rw [if_neg (by decide +kernel)]; exact ⟨rfl, rfl⟩))
    (fun os started H enc _ F => by rw [OpenClaim.pre_eq_preRow]; exact lifted os started H enc F)

theorem plain (f : FuncId) (fn : Func) (hf : Tryd.pinned.checked.prog.funcNamed "phosphor/phosphorlaw06.TabsReport" = some f) (hfn : Tryd.pinned.checked.prog.funcs[f]? = some fn) :
    false = Tryd.pinned.checked.prog.looks [] ∧ ∀ (j : Nat) t, fn.params[j]? = some t → Tryd.pinned.checked.prog.wantsStandIn t = false := by
  obtain rfl : f = 3 := Option.some.inj ((show Tryd.prog.funcNamed "phosphor/phosphorlaw06.TabsReport" = some 3 by kernel_rfl).symm.trans hf) |>.symm
  obtain rfl : fn = Tryd.f3 := (Option.some.inj (Tryd.func3.symm.trans hfn)).symm
  refine ⟨by kernel_rfl, fun j t ht => ?_⟩
  rw [Tryd.params3] at ht
  have hm : t ∈ [22, 22] := by simpa using Array.mem_of_getElem? ht
  have hall : ([22, 22].all fun u => !Tryd.prog.wantsStandIn u) = true := by kernel_rfl
  exact (show Tryd.prog.wantsStandIn t = false by simpa using List.all_eq_true.1 hall t hm)

/-- The card. -/
theorem card : Rows.TabsReportCardSaid :=
  Claim7.holds_tied_plain_at .later [] _ _ _ _ said (fun _ h => by cases h) (by kernel_rfl) (fun _ h => by cases h) tabsReport_row_tie rfl ⟨rfl, rfl⟩ (by kernel_rfl) rfl plain (by kernel_rfl)
#print axioms card
end Go.Proofs.YtnfdgioapbkonaaDoor.tabsReport

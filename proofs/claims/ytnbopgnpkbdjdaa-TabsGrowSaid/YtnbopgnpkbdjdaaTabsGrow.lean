/-
  TabsGrow holds, whatever the input.
-/
import Derived.Test.YtnbopgnpkbdjdaaFrame0
import Derived.Test.YtnbopgnpkbdjdaaTabP
import Derived.Test.YtnbopgnpkbdjdaaFrameT
namespace Go.Proofs.Ytnbopgnpkbdjdaa.tabsGrow
open Go.ChangeShapes Go.WideShapes Go.ChangeAt Go.RowKit
open Go.ChangeMaps (open_string)

set_option maxRecDepth 100000 in
set_option maxHeartbeats 4000000 in
theorem walk (A : Option Addr) (c : Nat) (acts : List Ac) (hl : acts.length ≤ maxLen) (n1 n2 : Int) (w : World) (hr : RActs w A acts) :
    Calls Try.prog 6 #[.slice A acts.length c, .int .i64 n1, .int .i64 n2] w fun e w' => e = .returned (.bool true) ∧ Below w.heap.size w w' := by
  have HAw := Lib.hid (fun W => awake_any W)
  have HPl := Lib.hid (fun W h => played_any 80 A c acts hl W h)
  have HR := Lib.hid hr
  clear hr
  go_enter Try.func6, Try.ntmps6
  go_wp2_with fail
  refine (HAw.out _).mono ?_
  rintro e w1 ⟨rfl, hb1⟩
  have HB1 := Lib.hid hb1
  clear hb1
  go_wp2_with fail
  refine (HPl.out _ (HR.out.next HB1.out)).mono ?_
  rintro e w2 ⟨B, v, l, rfl, hB, hp⟩
  obtain ⟨A2, c2, rfl⟩ := OBools.form hp.own
  have hlen := hp.len
  have HRd := Lib.hid hp.reads
  have HS := Lib.hid hp.st
  have HB2 := Lib.hid (HB1.out.trans (hp.below.mono HB1.out.size))
  have HO := Lib.hid hp.own
  have hBw : w.heap.size ≤ B := Nat.le_trans HB1.out.size hB
  have HZ1 := Lib.hid (resize_rsz B l n1 w2 hp.st)
  have HZ2 := Lib.hid (fun W s => resize_rsz B (rszP l (colsT n1)) n2 W s)
  have HQ1 := Lib.hid (fun W h => refResize_any A2 c2 l hlen n1 W h)
  have hN1 : (rszP l (colsT n1)).length ≤ 500 := by rw [rszP_len]; unfold colsT; omega
  have hN2 : (rszP (rszP l (colsT n1)) (colsT n2)).length ≤ 500 := by rw [rszP_len]; unfold colsT; omega
  have HQ2 := Lib.hid (fun A' c' W h => refResize_any A' c' (rszP l (colsT n1)) hN1 n2 W h)
  clear hp
  generalize rszP (rszP l (colsT n1)) (colsT n2) = l2 at *
  generalize rszP l (colsT n1) = l1 at *
  have HLi := Lib.hid (fun W s => list_any B l2.length (hOf l2) W s)
  have HRl := Lib.hid (fun A' c' W h => refList_any A' c' l2 hN2 W h)
  have HCo := Lib.hid (fun W s => cols_any B l2.length (hOf l2) W s)
  have hml := lstP_len (hOf l2) l2.length
  have HSa := Lib.hid (same_list (lstP (hOf l2) l2.length) (by omega))
  generalize lstP (hOf l2) l2.length = L at *
  go_wp2_with fail
  refine HZ1.out.mono ?_
  rintro e w3 ⟨rfl, hs3, hg3⟩
  have HS3 := Lib.hid hs3
  have HO3 := Lib.hid (HO.out.by_stops HS.out hg3)
  have HB3 := Lib.hid (below_of_grown HB2.out hg3 HB2.out.size hBw)
  clear hs3 hg3
  go_wp2_with fail
  refine (HZ2.out _ HS3.out).mono ?_
  rintro e w4 ⟨rfl, hs4, hg4⟩
  have HS4 := Lib.hid hs4
  have HO4 := Lib.hid (OBools.reads (HO3.out.by_stops HS3.out hg4))
  have HB4 := Lib.hid (below_of_grown HB3.out hg4 HB3.out.size hBw)
  clear hs4 hg4
  go_wp2_with fail
  refine (HQ1.out _ HO4.out).mono ?_
  rintro e w5 ⟨v5, rfl, ho5, hb5⟩
  obtain ⟨A5, c5, rfl⟩ := OBools.form ho5
  have HS5 := Lib.hid (HS4.out.next hb5)
  have HO5 := Lib.hid (OBools.reads ho5)
  have HB5 := Lib.hid (HB4.out.trans (hb5.mono HB4.out.size))
  clear hb5 ho5
  go_wp2_with fail
  refine (HQ2.out A5 c5 _ HO5.out).mono ?_
  rintro e w6 ⟨v6, rfl, ho6, hb6⟩
  obtain ⟨A6, c6, rfl⟩ := OBools.form ho6
  have HS6 := Lib.hid (HS5.out.next hb6)
  have HO6 := Lib.hid (OBools.reads ho6)
  have HB6 := Lib.hid (HB5.out.trans (hb6.mono HB5.out.size))
  clear hb6 ho6
  go_wp2_with fail
  refine (HLi.out _ HS6.out).mono ?_
  rintro e w7 ⟨v7, rfl, ho7, hb7⟩
  obtain ⟨A7, c7, rfl, hr7⟩ := OInts.rints ho7
  have HS7 := Lib.hid (HS6.out.next hb7)
  have HO7 := Lib.hid (HO6.out.next hb7)
  have HR7 := Lib.hid hr7
  have HB7 := Lib.hid (HB6.out.trans (hb7.mono HB6.out.size))
  clear hb7 ho7 hr7
  go_wp2_with fail
  refine (HRl.out A6 c6 _ HO7.out).mono ?_
  rintro e w8 ⟨v8, rfl, ho8, hb8⟩
  obtain ⟨A8, c8, rfl, hr8⟩ := OInts.rints ho8
  have HS8 := Lib.hid (HS7.out.next hb8)
  have HR8 := Lib.hid hr8
  have HR8a := Lib.hid (HR7.out.next hb8)
  have HB8 := Lib.hid (HB7.out.trans (hb8.mono HB7.out.size))
  clear hb8 ho8 hr8
  go_wp2_with fail
  refine (HSa.out A7 A8 c7 c8 _ HR8a.out HR8.out).mono ?_
  rintro e w9 ⟨rfl, hb9⟩
  have HS9 := Lib.hid (HS8.out.next hb9)
  have HB9 := Lib.hid (HB8.out.trans (hb9.mono HB8.out.size))
  clear hb9
  go_wp2_with fail
  refine (HCo.out _ HS9.out).mono ?_
  rintro e w10 ⟨rfl, hb10⟩
  have HB10 := Lib.hid (HB9.out.trans (hb10.mono HB9.out.size))
  clear hb10
  go_wp2_with fail
  go_ret
  exact ⟨rfl, HB10.out⟩

/-- What the walk gives, for every argument and every world that holds the table. -/
theorem contract (H : Type) (enc : TypeId × Value → H) (W : World) (base : Nat) (args : Array Value) (ds gs : List (DataW H)) (before : List MemPlace)
    (hval : ∀ (j : Nat) t v, Try.f6.params[j]? = some t → args[j]? = some v → Value.okWide Try.prog W .any base t v)
    (hW : DataW.Whole enc Try.prog Try.f6.params.toList Rows.tabsGrowSpec.vars false W args.toList ds gs before) (_hL : laidMetH Try.prog Rows.tabsGrowRow.laid W)
    (hreach : (DataW.weightsEach Try.prog (Try.f6.params.toList ++ []) (ds ++ gs)).all (· ≤ reachBytes) = true) :
    Calls Try.prog 6 args W fun e W' => ∃ v, e = .returned v ∧ Rows.tabsGrowSpec.post enc Try.prog Try.f6 false true false false W args v W' := by
  have hW' := hW
  clear _hL
  have hlts : ∀ x ∈ before, x.block < W.heap.size := fun x hx => hW'.lt x hx
  obtain ⟨p, q, hA0, hV, rfl, hfz, hnd⟩ := hW
  have hA : DataW.TrodAll enc Try.prog W 0 (fun _ => true) true Try.f6.params.toList args.toList ds p := hA0
  rw [Try.params6] at hA hval hreach
  obtain ⟨v0, vs0, d0, ds0, pp0, qq0, hargs, rfl, rfl, h0, rr0⟩ := trodAll_cons hA
  obtain ⟨v1, vs1, d1, ds1, pp1, qq1, rfl, rfl, rfl, h1, rr1⟩ := trodAll_cons rr0
  obtain ⟨v2, vs2, d2, ds2, pp2, qq2, rfl, rfl, rfl, h2, rr2⟩ := trodAll_cons rr1
  obtain ⟨rfl, rfl, rfl⟩ := trodAll_nil rr2
  obtain rfl : args = #[v0, v1, v2] := by cases args; simp_all
  obtain ⟨rfl, rfl⟩ := trodVars_none hV
  obtain ⟨b0, len0, cap0, rfl⟩ := okWide_slice Try.underlying22 (hval 0 22 v0 rfl rfl)
  obtain ⟨l0, hlen0, hm0, hri0⟩ := acts_in h0
  subst hlen0
  obtain ⟨a1, rfl, rfl, rfl, w1⟩ := open_int Try.underlying3 (hval 1 3 v1 rfl rfl) h1
  obtain ⟨a2, rfl, rfl, rfl, w2⟩ := open_int Try.underlying3 (hval 2 3 v2 rfl rfl) h2
  clear hA0
  refine (walk b0 cap0 l0 hm0 a1 a2 W hri0).mono fun e W' ⟨he, hb⟩ => ?_
  subst he
  exact ⟨_, rfl, post_law laidOut (by kernel_rfl) (by kernel_rfl) rfl hW' rfl hb⟩

theorem laid_met (os : Os) : laidMet Try.prog Rows.tabsGrowRow.laid ((laidWorld os).forCall (fun _ _ => 0) ⟨#[], #[Value.slice none 0 0, Value.int .i64 0, Value.int .i64 0], []⟩).memory :=
  laidMet_of_run' 8 (by kernel_rfl) (by kernel_rfl)
theorem reads (os : Os) {H : Type} (enc : TypeId × Value → H) : ∃ places, DataW.whole enc Try.prog ((laidWorld os).forCall (fun _ _ => 0) ⟨#[], #[Value.slice none 0 0, Value.int .i64 0, Value.int .i64 0], []⟩).memory Try.f6.params.toList Rows.tabsGrowSpec.vars false (#[Value.slice none 0 0, Value.int .i64 0, Value.int .i64 0] : Array Value).toList 8 = some ([.nil, .lit (.int .i64 0), .lit (.int .i64 0)], [], places) :=
  ⟨[], by kernel_rfl⟩

set_option maxRecDepth 100000 in
theorem lifted (os : Os) (started : os.Started) (H : Type) (enc : TypeId × Value → H) (F : Stop.Interp) :
    ReturnsInHanded {} Try.checked os 6 .any ((OpenSpec.ofChange Rows.tabsGrowSpec).preRow enc Try.prog Try.f6 Rows.tabsGrowRow.domain false Rows.tabsGrowRow.laid) (((OpenSpec.ofChange Rows.tabsGrowSpec).at F).post enc Try.prog Try.f6 false true false false) := by
  obtain ⟨places, hx⟩ := reads os enc
  refine returnsInHanded_of_row (C := Try.checked) (s := OpenSpec.ofChange Rows.tabsGrowSpec) own started (by kernel_rfl) Try.func6
    (witness_row_at (enc := enc) (C := Try.checked) false (laidWorld os) #[Value.slice none 0 0, Value.int .i64 0, Value.int .i64 0] rfl (by kernel_rfl) (by kernel_rfl) (by kernel_rfl)
      (OpenSpec.preRow_of_cond 8 hx (by kernel_rfl) (fun k hk => by cases hk) (by kernel_rfl) (laid_met os))) ?_
  intro W base args ds gs before hval hW _ _ hreach hL _ _
  exact contract H enc W base args ds gs before hval hW hL hreach

theorem said : Rows.TabsGrowSaid :=
  OpenClaim.holds_of_cond 6 Try.f6 rfl rfl rfl rfl rfl rfl rfl ⟨rfl, rfl, rfl, rfl, rfl⟩ rfl rfl rfl rfl rfl (by kernel_rfl) Try.func6 (by kernel_rfl)
    (of_decide_eq_true (by kernel_rfl)) (by unfold Func.isWrapper; first | (rw [if_pos (by decide +kernel)]; kernel_rfl) | (rw [if_neg (by decide +kernel)]; exact ⟨rfl, rfl⟩))
    (fun os started H enc _ F => by rw [OpenClaim.pre_eq_preRow]; exact lifted os started H enc F)

#print axioms said
end Go.Proofs.Ytnbopgnpkbdjdaa.tabsGrow

/-
  TabsMove holds, whatever the input.
-/
import Derived.Test.YtnbopgnpkbdjdaaFrame0
import Derived.Test.YtnbopgnpkbdjdaaTabP
import Derived.Test.YtnbopgnpkbdjdaaFrameT
namespace Go.Proofs.Ytnbopgnpkbdjdaa.tabsMove
open Go.ChangeShapes Go.WideShapes Go.ChangeAt Go.RowKit
open Go.ChangeMaps (open_string)

set_option maxRecDepth 100000 in
set_option maxHeartbeats 4000000 in
theorem walk (A : Option Addr) (c : Nat) (acts : List Ac) (hl : acts.length ≤ maxLen) (col n : Int) (hn : -9223372036854775808 ≤ n ∧ n ≤ 9223372036854775807) (w : World) (hr : RActs w A acts) :
    Calls Try.prog 4 #[.slice A acts.length c, .int .i64 col, .int .i64 n] w fun e w' => e = .returned (.bool true) ∧ Below w.heap.size w w' := by
  have hless := less_of n hn.2
  clear hn
  have HAw := Lib.hid (fun W => awake_any W)
  have HPl := Lib.hid (fun W h => played_any 40 A c acts hl W h)
  have HR := Lib.hid hr
  clear hr
  go_enter Try.func4, Try.ntmps4
  go_wp2_with fail
  refine (HAw.out _).mono ?_
  rintro e w1 ⟨rfl, hb1⟩
  have HB1 := Lib.hid hb1
  clear hb1
  go_wp2_with fail
  refine (HPl.out _ (HR.out.next HB1.out)).mono ?_
  rintro e w2 ⟨B, v, l, rfl, hB, hp⟩
  obtain ⟨A2, c2, rfl⟩ := OBools.form hp.own
  have hlen := hp.len
  have HRd := Lib.hid hp.reads
  have HS := Lib.hid hp.st
  have HB2 := Lib.hid (HB1.out.trans (hp.below.mono HB1.out.size))
  have HO := Lib.hid hp.own
  have hBw : w.heap.size ≤ B := Nat.le_trans HB1.out.size hB
  have hBl := hp.st.lt
  clear hp
  have HNx := Lib.hid (fun W s => next_any B l.length (hOf l) col n hless W s)
  have HBk := Lib.hid (fun W s => back_any B l.length (hOf l) col n hless W s)
  have HRn := Lib.hid (fun W h => refNext_any A2 c2 l hlen col n hless W h)
  have HRb := Lib.hid (fun W h => (by
    have := refBack_any A2 c2 l hlen col n hless W h
    rw [back_same] at this
    exact this : Calls Try.prog 21 #[.slice A2 l.length c2, .int .i64 col, .int .i64 n] W fun e w' => e = .returned (.int .i64 (backP (hOf l) l.length col n)) ∧ Below W.heap.size W w'))
  obtain ⟨hx0, hx1⟩ := next_in (hOf l) l.length col n
  obtain ⟨hy0, hy1⟩ := back_inT (hOf l) l.length col n
  generalize nextP (hOf l) l.length col n = x at *
  generalize backP (hOf l) l.length col n = y at *
  have hcase : (l.length = 0 ∧ ((l.length : Int) == 0) = true) ∨ (((l.length : Int) == 0) = false ∧ decide (x < (l.length : Int)) = true ∧ decide (y < (l.length : Int)) = true) := by
    by_cases h : l.length = 0
    · exact .inl ⟨h, by rw [h]; rfl⟩
    · exact .inr ⟨by rw [beq_eq_false_iff_ne]; omega, by simp; exact hx1 (by omega), by simp; exact hy1 (by omega)⟩
  have HCs := Lib.hid hcase
  clear hx1 hy1 hcase
  go_wp2_with fail
  refine (HNx.out _ HS.out).mono ?_
  rintro e w3 ⟨rfl, hb3⟩
  have HS3 := Lib.hid (HS.out.next hb3); have HR3 := Lib.hid (HRd.out.next hb3); have HB3 := Lib.hid (HB2.out.trans (hb3.mono HB2.out.size))
  clear hb3
  go_wp2_with fail
  refine (HBk.out _ HS3.out).mono ?_
  rintro e w4 ⟨rfl, hb4⟩
  have HR4 := Lib.hid (HR3.out.next hb4); have HB4 := Lib.hid (HB3.out.trans (hb4.mono HB3.out.size))
  clear hb4
  go_wp2_with fail
  refine (HRn.out _ HR4.out).mono ?_
  rintro e w5 ⟨rfl, hb5⟩
  have HR5 := Lib.hid (HR4.out.next hb5); have HB5 := Lib.hid (HB4.out.trans (hb5.mono HB4.out.size))
  clear hb5
  go_wp2_with fail
  refine (HRb.out _ HR5.out).mono ?_
  rintro e w6 ⟨rfl, hb6⟩
  have HB6 := Lib.hid (HB5.out.trans (hb6.mono HB5.out.size))
  clear hb6
  have g1 : decide (0 ≤ x) = true := by simpa using hx0
  have g2 : decide (0 ≤ y) = true := by simpa using hy0
  have hC := HCs.out
  rcases hC with ⟨h0, h1⟩ | ⟨h1, h2, h3⟩
  all_goals
    go_wp2_with fail
    go_ret
    exact ⟨rfl, HB6.out⟩

/-- What the walk gives, for every argument and every world that holds the table. -/
theorem contract (H : Type) (enc : TypeId × Value → H) (W : World) (base : Nat) (args : Array Value) (ds gs : List (DataW H)) (before : List MemPlace)
    (hval : ∀ (j : Nat) t v, Try.f4.params[j]? = some t → args[j]? = some v → Value.okWide Try.prog W .any base t v)
    (hW : DataW.Whole enc Try.prog Try.f4.params.toList Rows.tabsMoveSpec.vars false W args.toList ds gs before) (_hL : laidMetH Try.prog Rows.tabsMoveRow.laid W)
    (hreach : (DataW.weightsEach Try.prog (Try.f4.params.toList ++ []) (ds ++ gs)).all (· ≤ reachBytes) = true) :
    Calls Try.prog 4 args W fun e W' => ∃ v, e = .returned v ∧ Rows.tabsMoveSpec.post enc Try.prog Try.f4 false true false false W args v W' := by
  have hW' := hW
  clear _hL
  have hlts : ∀ x ∈ before, x.block < W.heap.size := fun x hx => hW'.lt x hx
  obtain ⟨p, q, hA0, hV, rfl, hfz, hnd⟩ := hW
  have hA : DataW.TrodAll enc Try.prog W 0 (fun _ => true) true Try.f4.params.toList args.toList ds p := hA0
  rw [Try.params4] at hA hval hreach
  obtain ⟨v0, vs0, d0, ds0, pp0, qq0, hargs, rfl, rfl, h0, rr0⟩ := trodAll_cons hA
  obtain ⟨v1, vs1, d1, ds1, pp1, qq1, rfl, rfl, rfl, h1, rr1⟩ := trodAll_cons rr0
  obtain ⟨v2, vs2, d2, ds2, pp2, qq2, rfl, rfl, rfl, h2, rr2⟩ := trodAll_cons rr1
  obtain ⟨rfl, rfl, rfl⟩ := trodAll_nil rr2
  obtain rfl : args = #[v0, v1, v2] := by cases args; simp_all
  obtain ⟨rfl, rfl⟩ := trodVars_none hV
  obtain ⟨b0, len0, cap0, rfl⟩ := okWide_slice Try.underlying22 (hval 0 22 v0 rfl rfl)
  obtain ⟨l0, hlen0, hm0, hri0⟩ := acts_in h0
  subst hlen0
  obtain ⟨a1, rfl, rfl, rfl, w1⟩ := open_int Try.underlying3 (hval 1 3 v1 rfl rfl) h1
  obtain ⟨a2, rfl, rfl, rfl, w2⟩ := open_int Try.underlying3 (hval 2 3 v2 rfl rfl) h2
  have lo2 := bounds_i64 w2
  clear hA0
  refine (walk b0 cap0 l0 hm0 a1 a2 lo2 W hri0).mono fun e W' ⟨he, hb⟩ => ?_
  subst he
  exact ⟨_, rfl, post_law laidOut (by kernel_rfl) (by kernel_rfl) rfl hW' rfl hb⟩

theorem laid_met (os : Os) : laidMet Try.prog Rows.tabsMoveRow.laid ((laidWorld os).forCall (fun _ _ => 0) ⟨#[], #[Value.slice none 0 0, Value.int .i64 0, Value.int .i64 0], []⟩).memory :=
  laidMet_of_run' 8 (by kernel_rfl) (by kernel_rfl)
theorem reads (os : Os) {H : Type} (enc : TypeId × Value → H) : ∃ places, DataW.whole enc Try.prog ((laidWorld os).forCall (fun _ _ => 0) ⟨#[], #[Value.slice none 0 0, Value.int .i64 0, Value.int .i64 0], []⟩).memory Try.f4.params.toList Rows.tabsMoveSpec.vars false (#[Value.slice none 0 0, Value.int .i64 0, Value.int .i64 0] : Array Value).toList 8 = some ([.nil, .lit (.int .i64 0), .lit (.int .i64 0)], [], places) :=
  ⟨[], by kernel_rfl⟩

set_option maxRecDepth 100000 in
theorem lifted (os : Os) (started : os.Started) (H : Type) (enc : TypeId × Value → H) (F : Stop.Interp) :
    ReturnsInHanded {} Try.checked os 4 .any ((OpenSpec.ofChange Rows.tabsMoveSpec).preRow enc Try.prog Try.f4 Rows.tabsMoveRow.domain false Rows.tabsMoveRow.laid) (((OpenSpec.ofChange Rows.tabsMoveSpec).at F).post enc Try.prog Try.f4 false true false false) := by
  obtain ⟨places, hx⟩ := reads os enc
  refine returnsInHanded_of_row (C := Try.checked) (s := OpenSpec.ofChange Rows.tabsMoveSpec) own started (by kernel_rfl) Try.func4
    (witness_row_at (enc := enc) (C := Try.checked) false (laidWorld os) #[Value.slice none 0 0, Value.int .i64 0, Value.int .i64 0] rfl (by kernel_rfl) (by kernel_rfl) (by kernel_rfl)
      (OpenSpec.preRow_of_cond 8 hx (by kernel_rfl) (fun k hk => by cases hk) (by kernel_rfl) (laid_met os))) ?_
  intro W base args ds gs before hval hW _ _ hreach hL _ _
  exact contract H enc W base args ds gs before hval hW hL hreach

theorem said : Rows.TabsMoveSaid :=
  OpenClaim.holds_of_cond 4 Try.f4 rfl rfl rfl rfl rfl rfl rfl ⟨rfl, rfl, rfl, rfl, rfl⟩ rfl rfl rfl rfl rfl (by kernel_rfl) Try.func4 (by kernel_rfl)
    (of_decide_eq_true (by kernel_rfl)) (by unfold Func.isWrapper; first | (rw [if_pos (by decide +kernel)]; kernel_rfl) | (rw [if_neg (by decide +kernel)]; exact ⟨rfl, rfl⟩))
    (fun os started H enc _ F => by rw [OpenClaim.pre_eq_preRow]; exact lifted os started H enc F)

#print axioms said
end Go.Proofs.Ytnbopgnpkbdjdaa.tabsMove

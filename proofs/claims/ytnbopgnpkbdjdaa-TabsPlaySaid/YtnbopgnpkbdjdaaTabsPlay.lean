/-
  TabsPlay holds, whatever the input.
-/
import Derived.Test.YtnbopgnpkbdjdaaFrame0
import Derived.Test.YtnbopgnpkbdjdaaTabP
import Derived.Test.YtnbopgnpkbdjdaaFrameT
namespace Go.Proofs.Ytnbopgnpkbdjdaa.tabsPlay
open Go.ChangeShapes Go.WideShapes Go.ChangeAt Go.RowKit
open Go.ChangeMaps (open_string)

set_option maxRecDepth 100000 in
set_option maxHeartbeats 4000000 in
theorem walk (cols : Int) (A : Option Addr) (c : Nat) (acts : List Ac) (hl : acts.length ≤ maxLen) (w : World) (hr : RActs w A acts) :
    Calls Try.prog 3 #[.int .i64 cols, .slice A acts.length c] w fun e w' => e = .returned (.bool true) ∧ Below w.heap.size w w' := by
  have HAw := Lib.hid (fun W => awake_any W)
  have HPl := Lib.hid (fun W h => played_any cols A c acts hl W h)
  have HR := Lib.hid hr
  clear hr
  go_enter Try.func3, Try.ntmps3
  go_wp2_with fail
  refine (HAw.out _).mono ?_
  rintro e w1 ⟨rfl, hb1⟩
  have HB1 := Lib.hid hb1
  clear hb1
  go_wp2_with fail
  refine (HPl.out _ (HR.out.next HB1.out)).mono ?_
  rintro e w2 ⟨B, v, l, rfl, hB, hp⟩
  obtain ⟨A2, c2, rfl⟩ := OBools.form hp.own
  have hlen := hp.len
  have HRd := Lib.hid hp.reads
  have HS := Lib.hid hp.st
  have HB2 := Lib.hid (HB1.out.trans (hp.below.mono HB1.out.size))
  have HO := Lib.hid hp.own
  have hBw : w.heap.size ≤ B := Nat.le_trans HB1.out.size hB
  have hBl := hp.st.lt
  clear hp
  have HCp := Lib.hid (copy_any B l.length (hOf l) w2 HS.out)
  have HCa := Lib.hid (fun W s => clearAll_any B l.length (hOf l) W s)
  have HSt := Lib.hid (fun W (s : Stp W B l.length noH) => (by
    by_cases h : 3 < l.length
    · exact (set_yes B l.length noH 3 h W s).mono fun e w' ⟨h1, h2, h3⟩ => ⟨h1, h3⟩
    · exact (set_no B l.length noH 3 (by omega) W s).mono fun e w' ⟨h1, h2, h3⟩ => ⟨h1, h3⟩ : Calls Try.prog 12 #[.pointer (some ⟨B, 0, none⟩), .int .i64 3] W fun e w' => e = .returned (.tuple #[]) ∧ W.grownBy w' (some B)))
  have HLi := Lib.hid (fun C W s => list_any C l.length (hOf l) W s)
  have HRl := Lib.hid (fun W h => refList_any A2 c2 l hlen W h)
  have HCo := Lib.hid (fun C W s => cols_any C l.length (hOf l) W s)
  have HCz := Lib.hid (fun C W s => cols_any C 0 noH W s)
  have HHz := Lib.hid (fun C W s => has_no C 0 noH 0 (by omega) W s)
  have HNz := Lib.hid (fun C W s => next_any C 0 noH 5 2 (less_of 2 (by omega)) W s)
  rw [show nextP noH 0 5 2 = 0 from by decide] at HNz
  have hml := lstP_len (hOf l) l.length
  have HSa := Lib.hid (same_list (lstP (hOf l) l.length) (by omega))
  generalize lstP (hOf l) l.length = L at *
  go_wp2_with fail
  refine HCp.out.mono ?_
  rintro e w3 ⟨rfl, hs3, hb3⟩
  have hne : w2.heap.size ≠ B := by omega
  have HT3 := Lib.hid hs3
  have HS3 := Lib.hid (HS.out.next hb3); have HO3 := Lib.hid (HO.out.next hb3); have HB3 := Lib.hid (HB2.out.trans (hb3.mono HB2.out.size))
  generalize w2.heap.size = C at *
  clear hb3 hs3
  go_wp2_with fail
  refine (HCa.out _ HS3.out).mono ?_
  rintro e w4 ⟨rfl, hs4, hg4⟩
  have HT4 := Lib.hid (stp_grown HT3.out hg4 hne); have HO4 := Lib.hid (HO3.out.by_stops HS3.out hg4); have HS4 := Lib.hid hs4; have HB4 := Lib.hid (below_of_grown HB3.out hg4 HB3.out.size hBw)
  clear hs4 hg4
  go_wp2_with fail
  refine (HSt.out _ HS4.out).mono ?_
  rintro e w5 ⟨rfl, hg5⟩
  have HT5 := Lib.hid (stp_grown HT4.out hg5 hne); have HO5 := Lib.hid (OBools.reads (HO4.out.by_stops HS4.out hg5)); have HB5 := Lib.hid (below_of_grown HB4.out hg5 HB4.out.size hBw)
  clear hg5
  have HZ6 : Hid (Stp (w5.alloc (.cells #[.int .i64 0, .int .u64 0, .int .u64 0, .int .u64 0, .int .u64 0, .int .u64 0, .int .u64 0, .int .u64 0, .int .u64 0] 33)) w5.heap.size 0 noH) := Lib.hid ⟨_, Blk.new w5 _ (stopsC 0 (List.replicate 8 0)), stw_zero 0 (by omega)⟩
  have hb6 := al w5 (.cells #[.int .i64 0, .int .u64 0, .int .u64 0, .int .u64 0, .int .u64 0, .int .u64 0, .int .u64 0, .int .u64 0, .int .u64 0] 33)
  have HT6 := Lib.hid (HT5.out.next hb6); have HO6 := Lib.hid (HO5.out.next hb6); have HB6 := Lib.hid (HB5.out.trans (hb6.mono HB5.out.size))
  clear hb6
  go_wp2_with fail
  generalize w5.heap.size = Z at *
  refine (HLi.out C _ HT6.out).mono ?_
  rintro e w7 ⟨v7, rfl, ho7, hb7⟩
  obtain ⟨A7, c7, rfl, hr7⟩ := OInts.rints ho7
  have HT7 := Lib.hid (HT6.out.next hb7); have HZ7 := Lib.hid (HZ6.out.next hb7); have HO7 := Lib.hid (HO6.out.next hb7); have HR7 := Lib.hid hr7; have HB7 := Lib.hid (HB6.out.trans (hb7.mono HB6.out.size))
  clear hb7 ho7 hr7
  go_wp2_with fail
  refine (HRl.out _ HO7.out).mono ?_
  rintro e w8 ⟨v8, rfl, ho8, hb8⟩
  obtain ⟨A8, c8, rfl, hr8⟩ := OInts.rints ho8
  have HT8 := Lib.hid (HT7.out.next hb8); have HZ8 := Lib.hid (HZ7.out.next hb8); have HR8 := Lib.hid hr8; have HR8a := Lib.hid (HR7.out.next hb8); have HB8 := Lib.hid (HB7.out.trans (hb8.mono HB7.out.size))
  clear hb8 ho8 hr8
  go_wp2_with fail
  refine (HSa.out A7 A8 c7 c8 _ HR8a.out HR8.out).mono ?_
  rintro e w9 ⟨rfl, hb9⟩
  have HT9 := Lib.hid (HT8.out.next hb9); have HZ9 := Lib.hid (HZ8.out.next hb9); have HB9 := Lib.hid (HB8.out.trans (hb9.mono HB8.out.size))
  clear hb9
  go_wp2_with fail
  refine (HCo.out C _ HT9.out).mono ?_
  rintro e w10 ⟨rfl, hb10⟩
  have HZ10 := Lib.hid (HZ9.out.next hb10); have HB10 := Lib.hid (HB9.out.trans (hb10.mono HB9.out.size))
  clear hb10
  go_wp2_with fail
  refine (HCz.out Z _ HZ10.out).mono ?_
  rintro e w11 ⟨rfl, hb11⟩
  have HZ11 := Lib.hid (HZ10.out.next hb11); have HB11 := Lib.hid (HB10.out.trans (hb11.mono HB10.out.size))
  clear hb11
  go_wp2_with fail
  refine (HHz.out Z _ HZ11.out).mono ?_
  rintro e w12 ⟨rfl, hb12⟩
  have HZ12 := Lib.hid (HZ11.out.next hb12); have HB12 := Lib.hid (HB11.out.trans (hb12.mono HB11.out.size))
  clear hb12
  go_wp2_with fail
  refine (HNz.out Z _ HZ12.out).mono ?_
  rintro e w13 ⟨rfl, hb13⟩
  have HB13 := Lib.hid (HB12.out.trans (hb13.mono HB12.out.size))
  clear hb13
  go_wp2_with fail
  go_ret
  exact ⟨rfl, HB13.out⟩

/-- What the walk gives, for every argument and every world that holds the table. -/
theorem contract (H : Type) (enc : TypeId × Value → H) (W : World) (base : Nat) (args : Array Value) (ds gs : List (DataW H)) (before : List MemPlace)
    (hval : ∀ (j : Nat) t v, Try.f3.params[j]? = some t → args[j]? = some v → Value.okWide Try.prog W .any base t v)
    (hW : DataW.Whole enc Try.prog Try.f3.params.toList Rows.tabsPlaySpec.vars false W args.toList ds gs before) (_hL : laidMetH Try.prog Rows.tabsPlayRow.laid W)
    (hreach : (DataW.weightsEach Try.prog (Try.f3.params.toList ++ []) (ds ++ gs)).all (· ≤ reachBytes) = true) :
    Calls Try.prog 3 args W fun e W' => ∃ v, e = .returned v ∧ Rows.tabsPlaySpec.post enc Try.prog Try.f3 false true false false W args v W' := by
  have hW' := hW
  clear _hL
  have hlts : ∀ x ∈ before, x.block < W.heap.size := fun x hx => hW'.lt x hx
  obtain ⟨p, q, hA0, hV, rfl, hfz, hnd⟩ := hW
  have hA : DataW.TrodAll enc Try.prog W 0 (fun _ => true) true Try.f3.params.toList args.toList ds p := hA0
  rw [Try.params3] at hA hval hreach
  obtain ⟨v0, vs0, d0, ds0, pp0, qq0, hargs, rfl, rfl, h0, rr0⟩ := trodAll_cons hA
  obtain ⟨v1, vs1, d1, ds1, pp1, qq1, rfl, rfl, rfl, h1, rr1⟩ := trodAll_cons rr0
  obtain ⟨rfl, rfl, rfl⟩ := trodAll_nil rr1
  obtain rfl : args = #[v0, v1] := by cases args; simp_all
  obtain ⟨rfl, rfl⟩ := trodVars_none hV
  obtain ⟨a0, rfl, rfl, rfl, w0⟩ := open_int Try.underlying3 (hval 0 3 v0 rfl rfl) h0
  obtain ⟨b1, len1, cap1, rfl⟩ := okWide_slice Try.underlying22 (hval 1 22 v1 rfl rfl)
  obtain ⟨l1, hlen1, hm1, hri1⟩ := acts_in h1
  subst hlen1
  clear hA0
  refine (walk a0 b1 cap1 l1 hm1 W hri1).mono fun e W' ⟨he, hb⟩ => ?_
  subst he
  exact ⟨_, rfl, post_law laidOut (by kernel_rfl) (by kernel_rfl) rfl hW' rfl hb⟩

theorem laid_met (os : Os) : laidMet Try.prog Rows.tabsPlayRow.laid ((laidWorld os).forCall (fun _ _ => 0) ⟨#[], #[Value.int .i64 0, Value.slice none 0 0], []⟩).memory :=
  laidMet_of_run' 8 (by kernel_rfl) (by kernel_rfl)
theorem reads (os : Os) {H : Type} (enc : TypeId × Value → H) : ∃ places, DataW.whole enc Try.prog ((laidWorld os).forCall (fun _ _ => 0) ⟨#[], #[Value.int .i64 0, Value.slice none 0 0], []⟩).memory Try.f3.params.toList Rows.tabsPlaySpec.vars false (#[Value.int .i64 0, Value.slice none 0 0] : Array Value).toList 8 = some ([.lit (.int .i64 0), .nil], [], places) :=
  ⟨[], by kernel_rfl⟩

set_option maxRecDepth 100000 in
theorem lifted (os : Os) (started : os.Started) (H : Type) (enc : TypeId × Value → H) (F : Stop.Interp) :
    ReturnsInHanded {} Try.checked os 3 .any ((OpenSpec.ofChange Rows.tabsPlaySpec).preRow enc Try.prog Try.f3 Rows.tabsPlayRow.domain false Rows.tabsPlayRow.laid) (((OpenSpec.ofChange Rows.tabsPlaySpec).at F).post enc Try.prog Try.f3 false true false false) := by
  obtain ⟨places, hx⟩ := reads os enc
  refine returnsInHanded_of_row (C := Try.checked) (s := OpenSpec.ofChange Rows.tabsPlaySpec) own started (by kernel_rfl) Try.func3
    (witness_row_at (enc := enc) (C := Try.checked) false (laidWorld os) #[Value.int .i64 0, Value.slice none 0 0] rfl (by kernel_rfl) (by kernel_rfl) (by kernel_rfl)
      (OpenSpec.preRow_of_cond 8 hx (by kernel_rfl) (fun k hk => by cases hk) (by kernel_rfl) (laid_met os))) ?_
  intro W base args ds gs before hval hW _ _ hreach hL _ _
  exact contract H enc W base args ds gs before hval hW hL hreach

theorem said : Rows.TabsPlaySaid :=
  OpenClaim.holds_of_cond 3 Try.f3 rfl rfl rfl rfl rfl rfl rfl ⟨rfl, rfl, rfl, rfl, rfl⟩ rfl rfl rfl rfl rfl (by kernel_rfl) Try.func3 (by kernel_rfl)
    (of_decide_eq_true (by kernel_rfl)) (by unfold Func.isWrapper; first | (rw [if_pos (by decide +kernel)]; kernel_rfl) | (rw [if_neg (by decide +kernel)]; exact ⟨rfl, rfl⟩))
    (fun os started H enc _ F => by rw [OpenClaim.pre_eq_preRow]; exact lifted os started H enc F)

#print axioms said
end Go.Proofs.Ytnbopgnpkbdjdaa.tabsPlay

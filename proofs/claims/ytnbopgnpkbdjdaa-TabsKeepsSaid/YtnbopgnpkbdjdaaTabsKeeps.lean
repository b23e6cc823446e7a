/-
  TabsKeeps holds, whatever the input.
-/
import Derived.Test.YtnbopgnpkbdjdaaFrame0
import Derived.Test.YtnbopgnpkbdjdaaTabP
import Derived.Test.YtnbopgnpkbdjdaaFrameT
namespace Go.Proofs.Ytnbopgnpkbdjdaa.tabsKeeps
open Go.ChangeShapes Go.WideShapes Go.ChangeAt Go.RowKit
open Go.ChangeMaps (open_string)

theorem OInts.set1 {W : World} {b g n c : Nat} {L : List Int} (h : OInts W b (.slice (some ⟨g, 0, none⟩) n c) L) (hn : n = L.length) (k : Nat) (x : Int) :
    OInts (W.setCell ⟨g, k, none⟩ (.int .i64 x)) b (.slice (some ⟨g, 0, none⟩) n c) (L.set k x) := by
  subst hn
  have h1 := (World.ownsRow.stored h k (.int .i64 x)).1
  unfold OInts
  rw [List.length_set, List.map_set]
  exact h1
theorem OInts.cell1 {W : World} {b g n c : Nat} {L : List Int} (h : OInts W b (.slice (some ⟨g, 0, none⟩) n c) L) (hn : n = L.length) {k : Nat} (hk : k < L.length) :
    W.cell? ⟨g, k, none⟩ = some (.int .i64 L[k]) ∧ W.frozen? ⟨g, k, none⟩ = false := by
  subst hn
  refine ⟨?_, World.ownsRow.frozenAt h k⟩
  rw [World.ownsRow.cellAt h _ (by omega)]
  simp [List.getElem?_eq_getElem hk]
theorem OInts.farT {w : World} {base : Nat} {v : Value} {l : List Int} (h : OInts w base v l) {g : Nat} (hp : g < base) (o : Nat) (u : Value) : OInts (w.setCell ⟨g, o, none⟩ u) base v l :=
  World.ownsRow.kept (row := some g) h grown_set1 (by
    rcases hk : v.ownBlock with _ | k
    · exact .inl rfl
    · right; intro e; have := (World.ownsRow.lt (oints_own h) k hk).1; simp at e; omega)
theorem OInts.byA {w w' : World} {base : Nat} {v : Value} {l : List Int} {row : Option Nat} (h : OInts w base v l) (hg : w.grownBy w' row) (hr : ∀ k, row = some k → k < base) : OInts w' base v l :=
  World.ownsRow.kept (row := row) h hg (by
    rcases hk : v.ownBlock with _ | k
    · exact .inl rfl
    · right; intro e; have h1 := (World.ownsRow.lt (oints_own h) k hk).1; have h2 := hr k e.symm; omega)
theorem RBools.belowT {w w' : World} {A : Option Addr} {l : List Bool} (h : RBools w A l) (hb : Below w.heap.size w w') : RBools w' A l := h.next hb
theorem ownsRow_more {w : World} {base n : Nat} {e : TypeId} {v : Value} {xs : List Value} (h : w.ownsRow base e 1 v n xs) (hn : 0 < n) : ∃ g c, v = .slice (some ⟨g, 0, none⟩) n c := by
  obtain ⟨g, cap, hv, _⟩ := World.ownsRow.form h hn
  exact ⟨g, cap, hv⟩
set_option maxRecDepth 100000 in
set_option maxHeartbeats 4000000 in
theorem walk (A : Option Addr) (c : Nat) (acts : List Ac) (hl : acts.length ≤ maxLen) (w : World) (hr : RActs w A acts) :
    Calls Try.prog 7 #[.slice A acts.length c] w fun e w' => e = .returned (.bool true) ∧ Below w.heap.size w w' := by
  have HAw := Lib.hid (fun W => awake_any W)
  have HPl := Lib.hid (fun W h => played_any 70 A c acts hl W h)
  have HR := Lib.hid hr
  clear hr
  go_enter Try.func7, Try.ntmps7
  go_wp2_with fail
  refine (HAw.out _).mono ?_
  rintro e w1 ⟨rfl, hb1⟩
  have HB1 := Lib.hid hb1
  clear hb1
  go_wp2_with fail
  refine (HPl.out _ (HR.out.next HB1.out)).mono ?_
  rintro e w2 ⟨B, v, l, rfl, hB, hp⟩
  obtain ⟨A2, c2, rfl⟩ := OBools.form hp.own
  have hlen := hp.len
  have HRd := Lib.hid hp.reads
  have HS := Lib.hid hp.st
  have HB2 := Lib.hid (HB1.out.trans (hp.below.mono HB1.out.size))
  have HO := Lib.hid hp.own
  have hBw : w.heap.size ≤ B := Nat.le_trans HB1.out.size hB
  have hBl := hp.st.lt
  clear hp
  have HLi := Lib.hid (fun W s => list_any B l.length (hOf l) W s)
  have HRl := Lib.hid (fun W h => refList_any A2 c2 l hlen W h)
  have hml := lstP_len (hOf l) l.length
  have HSa := Lib.hid (same_list (lstP (hOf l) l.length) (by omega))
  generalize lstP (hOf l) l.length = L at *
  go_wp2_with fail
  refine (HLi.out _ HS.out).mono ?_
  rintro e w3 ⟨v3, rfl, ho3, hb3⟩
  have HB23 := Lib.hid hb3
  have HS3 := Lib.hid (HS.out.next hb3); have HO3 := Lib.hid ho3; have HR3 := Lib.hid (HRd.out.next hb3); have HB3 := Lib.hid (HB2.out.trans (hb3.mono HB2.out.size))
  clear hb3 ho3
  obtain ⟨Aa, ca, rfl⟩ := OInts.form HO3.out
  go_wp2_with fail
  refine (HLi.out _ HS3.out).mono ?_
  rintro e w4 ⟨v4, rfl, ho4, hb4⟩
  have HS4 := Lib.hid (HS3.out.next hb4); have HO4 := Lib.hid (HO3.out.next hb4); have HR4 := Lib.hid (HR3.out.next hb4); have HB4 := Lib.hid (HB3.out.trans (hb4.mono HB3.out.size))
  have HOb := Lib.hid ho4
  have hz34 := hb4.size
  have HB24 := Lib.hid (HB23.out.trans (hb4.mono HB23.out.size))
  have hfar : ∀ k, (Value.slice Aa L.length ca).ownBlock = some k → w2.heap.size ≤ k ∧ k < w3.heap.size := fun k hk => World.ownsRow.lt (oints_own HO3.out) k hk
  have HfarA := Lib.hid hfar
  clear hb4 ho4 hfar
  obtain ⟨Ab, cb, rfl⟩ := OInts.form HOb.out
  obtain ⟨i0, hi0, hz0, hz1, hz2⟩ := info_parts info_int
  have HI0 := Lib.hid hi0; have HZ0 := Lib.hid hz0; have HZ1 := Lib.hid hz1; have HZ2 := Lib.hid hz2
  clear hi0 hz0 hz1 hz2
  have hz23 := HB23.out.size
  go_wp2_with fail
  go_loopw [25] (fun i wr => ∃ (k : Nat) (La : List Int), k ≤ L.length ∧ La.length = L.length ∧ i = .int .i64 k ∧ OInts wr w2.heap.size (.slice Aa L.length ca) La ∧ OInts wr w3.heap.size (.slice Ab L.length cb) L ∧ Below w2.heap.size w2 wr ∧ w4.heap.size ≤ wr.heap.size) (fun i _ => L.length - (intOf i).toNat)
  case atStart => exact ⟨0, L, by omega, rfl, rfl, HO4.out, HOb.out, HB24.out, Nat.le_refl _⟩
  case round =>
    obtain ⟨k, La, hk, hLa, rfl, hoa, hob, hbl, hsz⟩ := hrel
    have HOa := Lib.hid hoa; have HOb' := Lib.hid hob; have HBl := Lib.hid hbl
    clear hoa hob hbl
    by_cases hlt : k < L.length
    · obtain ⟨g, cap, hv, hg, _⟩ := World.ownsRow.form (show wr.ownsRow _ _ _ _ _ _ from oints_own HOa.out) (by omega)
      simp only [Value.slice.injEq] at hv
      obtain ⟨rfl, -, rfl⟩ := hv
      have hg3 := (HfarA.out g rfl).2
      obtain ⟨d0, f0⟩ := OInts.cell1 HOa.out hLa.symm (k := k) (by omega)
      have HSt := Lib.hid (OInts.set1 HOa.out hLa.symm k (-5))
      have HOc := Lib.hid (OInts.farT HOb'.out hg3 k (.int .i64 (-5)))
      have HBc := Lib.hid (HBl.out.setCell (p := ⟨g, k, none⟩) hg (.int .i64 (-5)))
      have hln : (La.set k (-5)).length = L.length := by rw [List.length_set]; exact hLa
      have HLn := Lib.hid hln
      clear hln
      generalize La.set k (-5) = La2 at *
      generalize La[k]'(by omega) = old at *
      go_wp2_with fail
      go_roundw
      case rel => exact ⟨k + 1, La2, by omega, HLn.out, by go_num, HSt.out, HOc.out, HBc.out, by simpa using hsz⟩
      case measure => simp [intOf]; omega
    · obtain rfl : k = L.length := by omega
      have hb5 := al wr (.cells #[.int .i64 1, .int .i64 2, .int .i64 3] 3)
      have HN := Lib.hid (rints_new wr 3 [1, 2, 3] #[.int .i64 1, .int .i64 2, .int .i64 3] rfl _ rfl)
      have HOa5 := Lib.hid (HOa.out.next hb5)
      have HOb5 := Lib.hid (HOb'.out.next hb5)
      have HB5 := Lib.hid (HBl.out.trans (hb5.mono HBl.out.size))
      have hz5 := hb5.size
      clear hb5
      go_wp2_with (at_builtin; refine wpList_append_any _ rfl _ _ 35 rfl w2.heap.size 3 i0 _ 1 8 Try.underlying35 HI0.out HZ0.out HZ1.out HZ2.out rfl (by decide) _ _ _ rfl (oints_own HOa5.out) _ (some ⟨wr.heap.size, 0, none⟩) 3 3 _ rfl HN.out (by simp [Value.oneCell']) (by unfold maxLen; omega) (by omega) (by omega) ?_; intro v6 w6 hown6 hg6 hat6; have HB6 := Lib.hid (HB5.out.grown hg6 HB5.out.size (fun k hk => (HfarA.out k hk).1)); have HOb6 := Lib.hid (OInts.byA HOb5.out hg6 (fun k hk => (HfarA.out k hk).2)); obtain ⟨g6, c6, rfl⟩ := ownsRow_more hown6 (by omega); clear hown6 hat6)
      have HR6 := Lib.hid (RBools.belowT HRd.out HB6.out)
      have HS6 : Hid (Stp w6 B l.length (hOf l)) := Lib.hid (let ⟨ws, h1, h2⟩ := HS.out; ⟨ws, h1.below HB6.out hBl, h2⟩)
      have HBw := Lib.hid (HB2.out.trans (HB6.out.mono HB2.out.size))
      clear hg6
      refine (HRl.out _ HR6.out).mono ?_
      rintro e w7 ⟨v7, rfl, ho7, hb7⟩
      obtain ⟨A7, c7, rfl, hr7⟩ := OInts.rints ho7
      have HR7 := Lib.hid hr7; have HOb7 := Lib.hid (OInts.reads (HOb6.out.next hb7)); have HS7 := Lib.hid (HS6.out.next hb7); have HB7 := Lib.hid (HBw.out.trans (hb7.mono HBw.out.size))
      clear hb7 ho7 hr7
      go_wp2_with fail
      refine (HSa.out Ab A7 cb c7 _ HOb7.out HR7.out).mono ?_
      rintro e w8 ⟨rfl, hb8⟩
      have HOb8 := Lib.hid (HOb7.out.next hb8); have HS8 := Lib.hid (HS7.out.next hb8); have HB8 := Lib.hid (HB7.out.trans (hb8.mono HB7.out.size))
      clear hb8
      go_wp2_with fail
      refine (HLi.out _ HS8.out).mono ?_
      rintro e w9 ⟨v9, rfl, ho9, hb9⟩
      obtain ⟨A9, c9, rfl, hr9⟩ := OInts.rints ho9
      have HR9 := Lib.hid hr9; have HOb9 := Lib.hid (HOb8.out.next hb9); have HB9 := Lib.hid (HB8.out.trans (hb9.mono HB8.out.size))
      clear hb9 ho9 hr9
      go_wp2_with fail
      refine (HSa.out A9 Ab c9 cb _ HR9.out HOb9.out).mono ?_
      rintro e w10 ⟨rfl, hb10⟩
      have HB10 := Lib.hid (HB9.out.trans (hb10.mono HB9.out.size))
      clear hb10
      go_wp2_with fail
      go_ret
      exact ⟨rfl, HB10.out⟩

/-- What the walk gives, for every argument and every world that holds the table. -/
theorem contract (H : Type) (enc : TypeId × Value → H) (W : World) (base : Nat) (args : Array Value) (ds gs : List (DataW H)) (before : List MemPlace)
    (hval : ∀ (j : Nat) t v, Try.f7.params[j]? = some t → args[j]? = some v → Value.okWide Try.prog W .any base t v)
    (hW : DataW.Whole enc Try.prog Try.f7.params.toList Rows.tabsKeepsSpec.vars false W args.toList ds gs before) (_hL : laidMetH Try.prog Rows.tabsKeepsRow.laid W)
    (hreach : (DataW.weightsEach Try.prog (Try.f7.params.toList ++ []) (ds ++ gs)).all (· ≤ reachBytes) = true) :
    Calls Try.prog 7 args W fun e W' => ∃ v, e = .returned v ∧ Rows.tabsKeepsSpec.post enc Try.prog Try.f7 false true false false W args v W' := by
  have hW' := hW
  clear _hL
  have hlts : ∀ x ∈ before, x.block < W.heap.size := fun x hx => hW'.lt x hx
  obtain ⟨p, q, hA0, hV, rfl, hfz, hnd⟩ := hW
  have hA : DataW.TrodAll enc Try.prog W 0 (fun _ => true) true Try.f7.params.toList args.toList ds p := hA0
  rw [Try.params7] at hA hval hreach
  obtain ⟨v0, vs0, d0, ds0, pp0, qq0, hargs, rfl, rfl, h0, rr0⟩ := trodAll_cons hA
  obtain ⟨rfl, rfl, rfl⟩ := trodAll_nil rr0
  obtain rfl : args = #[v0] := by cases args; simp_all
  obtain ⟨rfl, rfl⟩ := trodVars_none hV
  obtain ⟨b0, len0, cap0, rfl⟩ := okWide_slice Try.underlying22 (hval 0 22 v0 rfl rfl)
  obtain ⟨l0, hlen0, hm0, hri0⟩ := acts_in h0
  subst hlen0
  clear hA0
  refine (walk b0 cap0 l0 hm0 W hri0).mono fun e W' ⟨he, hb⟩ => ?_
  subst he
  exact ⟨_, rfl, post_law laidOut (by kernel_rfl) (by kernel_rfl) rfl hW' rfl hb⟩

theorem laid_met (os : Os) : laidMet Try.prog Rows.tabsKeepsRow.laid ((laidWorld os).forCall (fun _ _ => 0) ⟨#[], #[Value.slice none 0 0], []⟩).memory :=
  laidMet_of_run' 8 (by kernel_rfl) (by kernel_rfl)
theorem reads (os : Os) {H : Type} (enc : TypeId × Value → H) : ∃ places, DataW.whole enc Try.prog ((laidWorld os).forCall (fun _ _ => 0) ⟨#[], #[Value.slice none 0 0], []⟩).memory Try.f7.params.toList Rows.tabsKeepsSpec.vars false (#[Value.slice none 0 0] : Array Value).toList 8 = some ([.nil], [], places) :=
  ⟨[], by kernel_rfl⟩

set_option maxRecDepth 100000 in
theorem lifted (os : Os) (started : os.Started) (H : Type) (enc : TypeId × Value → H) (F : Stop.Interp) :
    ReturnsInHanded {} Try.checked os 7 .any ((OpenSpec.ofChange Rows.tabsKeepsSpec).preRow enc Try.prog Try.f7 Rows.tabsKeepsRow.domain false Rows.tabsKeepsRow.laid) (((OpenSpec.ofChange Rows.tabsKeepsSpec).at F).post enc Try.prog Try.f7 false true false false) := by
  obtain ⟨places, hx⟩ := reads os enc
  refine returnsInHanded_of_row (C := Try.checked) (s := OpenSpec.ofChange Rows.tabsKeepsSpec) own started (by kernel_rfl) Try.func7
    (witness_row_at (enc := enc) (C := Try.checked) false (laidWorld os) #[Value.slice none 0 0] rfl (by kernel_rfl) (by kernel_rfl) (by kernel_rfl)
      (OpenSpec.preRow_of_cond 8 hx (by kernel_rfl) (fun k hk => by cases hk) (by kernel_rfl) (laid_met os))) ?_
  intro W base args ds gs before hval hW _ _ hreach hL _ _
  exact contract H enc W base args ds gs before hval hW hL hreach

theorem said : Rows.TabsKeepsSaid :=
  OpenClaim.holds_of_cond 7 Try.f7 rfl rfl rfl rfl rfl rfl rfl ⟨rfl, rfl, rfl, rfl, rfl⟩ rfl rfl rfl rfl rfl (by kernel_rfl) Try.func7 (by kernel_rfl)
    (of_decide_eq_true (by kernel_rfl)) (by unfold Func.isWrapper; first | (rw [if_pos (by decide +kernel)]; kernel_rfl) | (rw [if_neg (by decide +kernel)]; exact ⟨rfl, rfl⟩))
    (fun os started H enc _ F => by rw [OpenClaim.pre_eq_preRow]; exact lifted os started H enc F)

#print axioms said
end Go.Proofs.Ytnbopgnpkbdjdaa.tabsKeeps

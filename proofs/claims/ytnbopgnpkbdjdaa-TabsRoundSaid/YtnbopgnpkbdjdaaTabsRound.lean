/-
  TabsRound holds, whatever the input.
-/
import Derived.Test.YtnbopgnpkbdjdaaFrame0
import Derived.Test.YtnbopgnpkbdjdaaTabP
import Derived.Test.YtnbopgnpkbdjdaaFrameT
namespace Go.Proofs.Ytnbopgnpkbdjdaa.tabsRound
open Go.ChangeShapes Go.WideShapes Go.ChangeAt Go.RowKit
open Go.ChangeMaps (open_string)

theorem next1_some (h : Nat → Bool) (col : Int) : ∀ r a m, nextG h col r a 1 = some m → ∀ c, a ≤ c → c < m → col < (c : Int) → h c = false := by
  intro r
  induction r with
  | zero => intro a m e; simp [nextG] at e
  | succ r ih =>
    intro a m e c h1 h2 h3
    rw [nextG_succ] at e
    by_cases hc : (decide (col < (a : Int)) && h a) = true
    · rw [if_pos hc, if_pos (by omega)] at e
      injection e with e
      omega
    · rw [if_neg hc] at e
      by_cases hac : a = c
      · subst hac
        rcases hh : h a with _ | _
        · rfl
        · exact absurd (by rw [hh]; simpa using h3) hc
      · exact ih (a + 1) m e c (by omega) h2 h3
theorem next1_none (h : Nat → Bool) (col : Int) : ∀ r a, nextG h col r a 1 = none → ∀ c, a ≤ c → c < a + r → col < (c : Int) → h c = false := by
  intro r
  induction r with
  | zero => intro a e c h1 h2; omega
  | succ r ih =>
    intro a e c h1 h2 h3
    rw [nextG_succ] at e
    by_cases hc : (decide (col < (a : Int)) && h a) = true
    · rw [if_pos hc, if_pos (by omega)] at e
      cases e
    · rw [if_neg hc] at e
      by_cases hac : a = c
      · subst hac
        rcases hh : h a with _ | _
        · rfl
        · exact absurd (by rw [hh]; simpa using h3) hc
      · exact ih (a + 1) e c (by omega) (by omega) h3
theorem left1 (h : Nat → Bool) (q m : Nat) (hq : h q = true) (hqm : q < m) (hno : ∀ c, q < c → c < m → h c = false) : ∀ n, q < n → (leftL h m n)[0]? = some q := by
  intro n
  induction n with
  | zero => intro hn; omega
  | succ n ih =>
    intro hn
    rw [leftL_succ]
    by_cases e : n = q
    · subst e
      rw [hq, Bool.and_true, if_pos (by simp; omega)]
      rfl
    · rw [if_neg]
      · exact ih (by omega)
      · intro hc
        simp at hc
        have := hno n (by omega) (by omega)
        rw [this] at hc
        cases hc.2
/-- From a stop to the next one, or to the edge. -/
theorem round_next (h : Nat → Bool) (n q : Nat) (hqn : q < n) (hq : h q = true) : ∃ m : Nat, nextP h n q 1 = m ∧ m < n ∧ q ≤ m ∧ (∀ c, q < c → c < m → h c = false) ∧ ((h m = true ∧ q < m ∧ backP h n m 1 = q) ∨ (m = q ∧ h m = true) ∨ (q < m ∧ h m = false)) := by
  rcases e : nextG h q n 0 1 with _ | m
  · refine ⟨n - 1, ?_, by omega, by omega, fun c h1 h2 => next1_none h q n 0 e c (by omega) (by omega) (by omega), ?_⟩
    · rw [nextP_none _ _ _ _ (by omega) e]; unfold nearP; omega
    · by_cases h1 : n - 1 = q
      · exact .inr (.inl ⟨h1, by rw [h1]; exact hq⟩)
      · exact .inr (.inr ⟨by omega, next1_none h q n 0 e (n - 1) (by omega) (by omega) (by omega)⟩)
  · obtain ⟨_, h2, h3, h4⟩ := nextG_lt h q n 0 1 m e
    have hno : ∀ c, q < c → c < m → h c = false := fun c h5 h6 => next1_some h q n 0 m e c (by omega) h6 (by omega)
    refine ⟨m, nextP_some _ _ _ _ (by omega) m e, by omega, by omega, hno, .inl ⟨h3, by omega, ?_⟩⟩
    exact backP_some _ _ _ _ (by omega) q (left1 h q m hq (by omega) hno n hqn)
set_option maxRecDepth 100000 in
set_option maxHeartbeats 4000000 in
theorem walk (A : Option Addr) (c : Nat) (acts : List Ac) (hl : acts.length ≤ maxLen) (col : Int) (_hc : -9223372036854775808 ≤ col ∧ col ≤ 9223372036854775807) (w : World) (hr : RActs w A acts) :
    Calls Try.prog 5 #[.slice A acts.length c, .int .i64 col] w fun e w' => e = .returned (.bool true) ∧ Below w.heap.size w w' := by
  have HAw := Lib.hid (fun W => awake_any W)
  have HPl := Lib.hid (fun W h => played_any 50 A c acts hl W h)
  have HR := Lib.hid hr
  clear hr
  go_enter Try.func5, Try.ntmps5
  go_wp2_with fail
  refine (HAw.out _).mono ?_
  rintro e w1 ⟨rfl, hb1⟩
  have HB1 := Lib.hid hb1
  clear hb1
  go_wp2_with fail
  refine (HPl.out _ (HR.out.next HB1.out)).mono ?_
  rintro e w2 ⟨B, v, l, rfl, hB, hp⟩
  obtain ⟨A2, c2, rfl⟩ := OBools.form hp.own
  have hlen := hp.len
  have HRd := Lib.hid hp.reads
  have HS := Lib.hid hp.st
  have HB2 := Lib.hid (HB1.out.trans (hp.below.mono HB1.out.size))
  have HO := Lib.hid hp.own
  have hBw : w.heap.size ≤ B := Nat.le_trans HB1.out.size hB
  have hBl := hp.st.lt
  clear hp
  clear _hc
  have hcase : (decide (col < 0) = true) ∨ (decide (col < 0) = false ∧ decide ((l.length : Int) ≤ col) = true) ∨ (∃ q : Nat, col = q ∧ q < l.length) := by
    by_cases h0 : col < 0
    · exact .inl (by simpa using h0)
    · by_cases h1 : (l.length : Int) ≤ col
      · exact .inr (.inl ⟨by simpa using h0, by simpa using h1⟩)
      · exact .inr (.inr ⟨col.toNat, by omega, by omega⟩)
  rcases hcase with h0 | ⟨h0, h1⟩ | ⟨q, rfl, hq⟩
  · go_wp2_with fail
    go_ret
    exact ⟨rfl, HB2.out⟩
  · go_wp2_with fail
    go_ret
    exact ⟨rfl, HB2.out⟩
  · have hd1 : decide (l.length ≤ q) = false := by simp; omega
    obtain ⟨ad, rfl, _, hcell⟩ := HRd.out.at_ hq
    rw [← hOf_in l q hq] at hcell
    rcases hh : hOf l q with _ | _
    · rw [hh] at hcell
      clear hh
      go_wp2_with fail
      go_ret
      exact ⟨rfl, HB2.out⟩
    · rw [hh] at hcell
      obtain ⟨m, hm1, hm2, hm3, hm4, hm5⟩ := round_next (hOf l) l.length q hq hh
      have HNx := Lib.hid (fun W s => next_any B l.length (hOf l) q 1 less_one W s)
      rw [hm1] at HNx
      have HHas := Lib.hid (fun (c : Nat) (hc : c < l.length) W s => has_yes B l.length (hOf l) c hc W s)
      have HBk := Lib.hid (fun W s => back_any B l.length (hOf l) m 1 less_one W s)
      have HNo := Lib.hid hm4; have H5 := Lib.hid hm5
      clear hm1 hm4 hm5 hh
      go_wp2_with fail
      refine (HNx.out _ HS.out).mono ?_
      rintro e w3 ⟨rfl, hb3⟩
      have HS3 := Lib.hid (HS.out.next hb3); have HB3 := Lib.hid (HB2.out.trans (hb3.mono HB2.out.size))
      clear hb3 hcell
      go_wp2_with fail
      go_loopw [9] (fun i wr => ∃ k : Nat, q + 1 ≤ k ∧ k ≤ max (q + 1) m ∧ i = .int .i64 k ∧ Stp wr B l.length (hOf l) ∧ Below w.heap.size w wr) (fun i _ => max (q + 1) m - (intOf i).toNat)
      case atStart => exact ⟨q + 1, by omega, by omega, by go_num, HS3.out, HB3.out⟩
      case round =>
        obtain ⟨k, hk1, hk2, rfl, hs, hb⟩ := hrel
        have HSk := Lib.hid hs; have HBk' := Lib.hid hb
        clear hs hb
        by_cases hlt : k < m
        · have HH := Lib.hid (fun W s => HHas.out k (by omega) W s)
          rw [HNo.out k (by omega) hlt] at HH
          go_wp2_with fail
          refine (HH.out _ HSk.out).mono ?_
          rintro e w4 ⟨rfl, hb4⟩
          have HS4 := Lib.hid (HSk.out.next hb4); have HB4 := Lib.hid (HBk'.out.trans (hb4.mono HBk'.out.size))
          clear hb4
          go_wp2_with fail
          go_roundw
          case rel => exact ⟨k + 1, by omega, by omega, by go_num, HS4.out, HB4.out⟩
          case measure => simp [intOf]; omega
        · have HH := Lib.hid (fun W s => HHas.out m hm2 W s)
          have hdk : decide (k < m) = false := by simpa using hlt
          rcases H5.out with ⟨h1, h2, h3⟩ | ⟨h1, h2⟩ | ⟨h1, h2⟩
          · rw [h1] at HH
            rw [h3] at HBk
            have g1 : ((m : Int) == (q : Int)) = false := by rw [beq_eq_false_iff_ne]; omega
            have g2 : (m == q) = false := by rw [beq_eq_false_iff_ne]; omega
            clear h1 h3 H5
            go_wp2_with fail
            refine (HH.out _ HSk.out).mono ?_
            rintro e w4 ⟨rfl, hb4⟩
            have HS4 := Lib.hid (HSk.out.next hb4); have HB4 := Lib.hid (HBk'.out.trans (hb4.mono HBk'.out.size))
            clear hb4
            go_wp2_with fail
            refine (HBk.out _ HS4.out).mono ?_
            rintro e w5 ⟨rfl, hb5⟩
            have HB5 := Lib.hid (HB4.out.trans (hb5.mono HB4.out.size))
            clear hb5
            go_wp2_with fail
            go_ret
            exact ⟨rfl, HB5.out⟩
          · subst h1
            rw [h2] at HH
            clear h2 H5
            go_wp2_with fail
            refine (HH.out _ HSk.out).mono ?_
            rintro e w4 ⟨rfl, hb4⟩
            have HB4 := Lib.hid (HBk'.out.trans (hb4.mono HBk'.out.size))
            clear hb4
            go_wp2_with fail
            go_ret
            exact ⟨rfl, HB4.out⟩
          · rw [h2] at HH
            clear h2 H5
            go_wp2_with fail
            refine (HH.out _ HSk.out).mono ?_
            rintro e w4 ⟨rfl, hb4⟩
            have HB4 := Lib.hid (HBk'.out.trans (hb4.mono HBk'.out.size))
            clear hb4
            go_wp2_with fail
            go_ret
            exact ⟨rfl, HB4.out⟩

/-- What the walk gives, for every argument and every world that holds the table. -/
theorem contract (H : Type) (enc : TypeId × Value → H) (W : World) (base : Nat) (args : Array Value) (ds gs : List (DataW H)) (before : List MemPlace)
    (hval : ∀ (j : Nat) t v, Try.f5.params[j]? = some t → args[j]? = some v → Value.okWide Try.prog W .any base t v)
    (hW : DataW.Whole enc Try.prog Try.f5.params.toList Rows.tabsRoundSpec.vars false W args.toList ds gs before) (_hL : laidMetH Try.prog Rows.tabsRoundRow.laid W)
    (hreach : (DataW.weightsEach Try.prog (Try.f5.params.toList ++ []) (ds ++ gs)).all (· ≤ reachBytes) = true) :
    Calls Try.prog 5 args W fun e W' => ∃ v, e = .returned v ∧ Rows.tabsRoundSpec.post enc Try.prog Try.f5 false true false false W args v W' := by
  have hW' := hW
  clear _hL
  have hlts : ∀ x ∈ before, x.block < W.heap.size := fun x hx => hW'.lt x hx
  obtain ⟨p, q, hA0, hV, rfl, hfz, hnd⟩ := hW
  have hA : DataW.TrodAll enc Try.prog W 0 (fun _ => true) true Try.f5.params.toList args.toList ds p := hA0
  rw [Try.params5] at hA hval hreach
  obtain ⟨v0, vs0, d0, ds0, pp0, qq0, hargs, rfl, rfl, h0, rr0⟩ := trodAll_cons hA
  obtain ⟨v1, vs1, d1, ds1, pp1, qq1, rfl, rfl, rfl, h1, rr1⟩ := trodAll_cons rr0
  obtain ⟨rfl, rfl, rfl⟩ := trodAll_nil rr1
  obtain rfl : args = #[v0, v1] := by cases args; simp_all
  obtain ⟨rfl, rfl⟩ := trodVars_none hV
  obtain ⟨b0, len0, cap0, rfl⟩ := okWide_slice Try.underlying22 (hval 0 22 v0 rfl rfl)
  obtain ⟨l0, hlen0, hm0, hri0⟩ := acts_in h0
  subst hlen0
  obtain ⟨a1, rfl, rfl, rfl, w1⟩ := open_int Try.underlying3 (hval 1 3 v1 rfl rfl) h1
  have lo1 := bounds_i64 w1
  clear hA0
  refine (walk b0 cap0 l0 hm0 a1 lo1 W hri0).mono fun e W' ⟨he, hb⟩ => ?_
  subst he
  exact ⟨_, rfl, post_law laidOut (by kernel_rfl) (by kernel_rfl) rfl hW' rfl hb⟩

theorem laid_met (os : Os) : laidMet Try.prog Rows.tabsRoundRow.laid ((laidWorld os).forCall (fun _ _ => 0) ⟨#[], #[Value.slice none 0 0, Value.int .i64 0], []⟩).memory :=
  laidMet_of_run' 8 (by kernel_rfl) (by kernel_rfl)
theorem reads (os : Os) {H : Type} (enc : TypeId × Value → H) : ∃ places, DataW.whole enc Try.prog ((laidWorld os).forCall (fun _ _ => 0) ⟨#[], #[Value.slice none 0 0, Value.int .i64 0], []⟩).memory Try.f5.params.toList Rows.tabsRoundSpec.vars false (#[Value.slice none 0 0, Value.int .i64 0] : Array Value).toList 8 = some ([.nil, .lit (.int .i64 0)], [], places) :=
  ⟨[], by kernel_rfl⟩

set_option maxRecDepth 100000 in
theorem lifted (os : Os) (started : os.Started) (H : Type) (enc : TypeId × Value → H) (F : Stop.Interp) :
    ReturnsInHanded {} Try.checked os 5 .any ((OpenSpec.ofChange Rows.tabsRoundSpec).preRow enc Try.prog Try.f5 Rows.tabsRoundRow.domain false Rows.tabsRoundRow.laid) (((OpenSpec.ofChange Rows.tabsRoundSpec).at F).post enc Try.prog Try.f5 false true false false) := by
  obtain ⟨places, hx⟩ := reads os enc
  refine returnsInHanded_of_row (C := Try.checked) (s := OpenSpec.ofChange Rows.tabsRoundSpec) own started (by kernel_rfl) Try.func5
    (witness_row_at (enc := enc) (C := Try.checked) false (laidWorld os) #[Value.slice none 0 0, Value.int .i64 0] rfl (by kernel_rfl) (by kernel_rfl) (by kernel_rfl)
      (OpenSpec.preRow_of_cond 8 hx (by kernel_rfl) (fun k hk => by cases hk) (by kernel_rfl) (laid_met os))) ?_
  intro W base args ds gs before hval hW _ _ hreach hL _ _
  exact contract H enc W base args ds gs before hval hW hL hreach

theorem said : Rows.TabsRoundSaid :=
  OpenClaim.holds_of_cond 5 Try.f5 rfl rfl rfl rfl rfl rfl rfl ⟨rfl, rfl, rfl, rfl, rfl⟩ rfl rfl rfl rfl rfl (by kernel_rfl) Try.func5 (by kernel_rfl)
    (of_decide_eq_true (by kernel_rfl)) (by unfold Func.isWrapper; first | (rw [if_pos (by decide +kernel)]; kernel_rfl) | (rw [if_neg (by decide +kernel)]; exact ⟨rfl, rfl⟩))
    (fun os started H enc _ F => by rw [OpenClaim.pre_eq_preRow]; exact lifted os started H enc F)

#print axioms said
end Go.Proofs.Ytnbopgnpkbdjdaa.tabsRound

/-
  The walk of the reference that reads a text of numbers piece by piece.
  The walk of the reference that reads a text of numbers: no bytes; a byte that may not be.
  Both ways of reading a text of numbers, whatever the text: one answer.
-/
import Derived.Test.YtfnamfkjbkhgeaaGreatDoorParG
namespace Go.Proofs.YtfnamfkjbkhgeaaGreatDoor

open Go.RowKit

theorem data_len (s : ByteArray) : s.data.toList.length = s.size := by show s.data.toList.length = s.data.size; simp
theorem data_at (s : ByteArray) (k : Nat) (hk : k < s.size) : s.data.toList[k]'(by rw [data_len]; exact hk) = s[k] := by simp; rfl
set_option maxHeartbeats 4000000 in
theorem refParse_yes (s : ByteArray) (hs : s.size ≤ 140737488355328) (hok : OkB s.data.toList) (hne : s.data.toList ≠ []) (w : World) :
    Calls Tryz.prog 84 #[.string s] w fun e w' => ∃ v, e = .returned (.tuple #[v, .int .i64 0]) ∧ OInts w' w.heap.size v (numsOf s.data.toList) ∧ Below w.heap.size w w' := by
  have HOk := Lib.hid hok
  have HNe := Lib.hid hne
  have hl0 : 0 < s.size := by rw [← data_len]; exact List.length_pos_iff.2 hne
  have hse : s.toList.isEmpty = false := by
    rw [ByteArray.toList_eq]
    cases h : s.data.toList with
    | nil => exact absurd h hne
    | cons a b => rfl
  clear hok hne
  go_enter Tryz.func84, Tryz.ntmps84
  go_wp2_with fail
  go_loop [4] (fun i => ∃ k : Nat, k ≤ s.size ∧ i = .int .i64 k) (fun i => s.size - (intOf i).toNat)
  case atStart => exact ⟨0, by omega, rfl⟩
  case round =>
    obtain ⟨k, hk, rfl⟩ := hrel
    by_cases hlt : k < s.size
    · have hb := HOk.out s[k] (by rw [← data_at s k hlt]; exact List.getElem_mem _)
      by_cases h59 : s[k] = 59
      · have h59n : ((s[k].toNat : Int) != 59) = false := by rw [h59]; decide
        clear h59
        go_wp2_with fail
        go_round
        case rel => exact ⟨k + 1, by omega, by go_num⟩
        case measure => simp [intOf]; omega
      · obtain ⟨b0, b1⟩ := okb_digit hb h59
        have h59n : ((s[k].toNat : Int) != 59) = true := by
          have : s[k].toNat ≠ 59 := fun e => h59 (UInt8.toNat_inj.1 e)
          simp; omega
        have hd1 : decide ((s[k].toNat : Int) < 48) = false := by simp; omega
        have hd2 : decide ((s[k].toNat : Int) > 57) = false := by simp; omega
        clear h59 hb
        go_wp2_with fail
        go_round
        case rel => exact ⟨k + 1, by omega, by go_num⟩
        case measure => simp [intOf]; omega
    · obtain rfl : k = s.size := by omega
      go_wp2_with fail
      go_loopw [5, 6, 7] (fun o b i wr => ∃ (k : Nat) (comp : List Int) (bg : Nat) (v : Value), k ≤ s.size + 1 ∧ i = .int .i64 k ∧ b = .int .i64 bg ∧ o = v ∧ OInts wr w.heap.size v (comp.take 30) ∧ Below w.heap.size w wr ∧ (k ≤ s.size → PieceAt s.data.toList k comp bg) ∧ (k = s.size + 1 → comp = fieldsP s.data.toList)) (fun _ _ i _ => s.size + 1 - (intOf i).toNat)
      case atStart => exact ⟨0, [], 0, _, by omega, rfl, rfl, rfl, World.ownsRow_nil _ _ _ _, Below.refl _ _, fun _ => piece_start _, fun h => absurd h (by omega)⟩
      case round =>
        obtain ⟨k, comp, bg, v, hk, rfl, rfl, rfl, hown, hbl, hp, hend⟩ := hrel
        by_cases hle : k ≤ s.size
        · have hp := hp hle
          clear hend hlt
          have HP := Lib.hid hp
          have HOwn := Lib.hid hown
          have HB := Lib.hid hbl
          have hbgk := hp.1
          obtain ⟨Av, cv, rfl⟩ := OInts.form hown
          clear hp hown hbl
          by_cases hcont : ∃ h : k < s.size, s[k] ≠ 59
          · obtain ⟨hltk, h59⟩ := hcont
            have hd := HOk.out s[k] (by rw [← data_at s k hltk]; exact List.getElem_mem _)
            obtain ⟨b0, b1⟩ := okb_digit hd h59
            have h59n : ((s[k].toNat : Int) != 59) = true := by
              have : s[k].toNat ≠ 59 := fun e => h59 (UInt8.toNat_inj.1 e)
              simp; omega
            have HP2 := Lib.hid (piece_digit _ k (by rw [data_len]; exact hltk) (by rw [data_at s k hltk]; exact h59) comp bg HP.out)
            clear h59 hd
            have hdl : decide ((k : Int) < s.size) = true := by simp; omega
            go_wp2_with fail
            go_roundw
            case rel => exact ⟨k + 1, comp, bg, _, by omega, by go_num, rfl, rfl, HOwn.out, HB.out, fun _ => HP2.out, fun h => absurd h (by omega)⟩
            case measure => simp [intOf]; omega
          · have hsd : ∀ b ∈ (s.extract bg k).data.toList, 48 ≤ b.toNat ∧ b.toNat ≤ 57 := by
              intro b hb
              rw [Lib.extract_data] at hb
              exact okb_digit (HOk.out b (List.mem_of_mem_drop (List.mem_of_mem_take hb))) (HP.out.2.1 b hb)
            have HSz : Hid ((s.extract bg k).size ≤ maxLen) := Lib.hid (by unfold maxLen; simp; omega)
            have hnum := number_any (s.extract bg k) HSz.out hsd
            rw [show sat (s.extract bg k).data.toList = sat (seg s.data.toList bg k) from by rw [Lib.extract_data]; rfl] at hnum
            have HNum := Lib.hid hnum
            clear hnum
            clear hsd
            obtain ⟨c2, hc2, hstep, hlast⟩ : ∃ c2, c2 = comp ++ [sat (seg s.data.toList bg k)] ∧ (k + 1 ≤ s.size → PieceAt s.data.toList (k + 1) c2 (k + 1)) ∧ (k + 1 = s.size + 1 → c2 = fieldsP s.data.toList) := by
              refine ⟨_, rfl, fun h => ?_, fun h => ?_⟩
              · have hltk : k < s.size := by omega
                have h59 : s[k] = 59 := Classical.byContradiction fun hne => hcont ⟨hltk, hne⟩
                exact piece_semi _ k (by rw [data_len]; exact hltk) (by rw [data_at s k hltk]; exact h59) comp bg HP.out
              · have : k = s.data.toList.length := by rw [data_len]; omega
                have hp := HP.out
                rw [this] at hp ⊢
                exact piece_end _ comp bg hp
            have HC2 := Lib.hid hc2
            have HStep := Lib.hid hstep
            have HLast := Lib.hid hlast
            clear hc2 hstep hlast
            have hcc : (∃ h : k < s.size, ((s[k].toNat : Int) != 59) = false) ∨ k = s.size := by
              rcases Nat.lt_or_ge k s.size with h | h
              · have h59 : s[k] = 59 := Classical.byContradiction fun hne => hcont ⟨h, hne⟩
                exact .inl ⟨h, by rw [h59]; decide⟩
              · exact .inr (by omega)
            clear hcont
            have hF : (comp.take 30).length < 30 ∨ ¬ (comp.take 30).length < 30 := Decidable.em _
            have HM := Lib.hid (keep_more comp (sat (seg s.data.toList bg k)))
            have HFu := Lib.hid (keep_full comp (sat (seg s.data.toList bg k)))
            generalize comp.take 30 = ns at *
            generalize sat (seg s.data.toList bg k) = x at *
            have hdl : (decide ((k : Int) < s.size) = true ∧ ∃ h : k < s.size, ((s[k].toNat : Int) != 59) = false) ∨ decide (k < s.size) = false := by
              rcases hcc with h | h
              · exact .inl ⟨by have := h.1; simp; omega, h⟩
              · exact .inr (by simp; omega)
            clear hcc
            rcases hdl with ⟨hdl, hltk, h59n⟩ | hdl
            all_goals
              rcases hF with hlen | hlen
              · have hm := HM.out hlen
                have HM2 := Lib.hid hm
                clear hm
                go_wp2_with (first
                  | (go_at_call 117; refine (HNum.out _).mono ?_; rintro e w1 ⟨rfl, rfl⟩)
                  | (at_builtin; refine wpList_push rfl _ _ _ rfl w.heap.size 3 (.int .i64 0) 8 Tryz.underlying64 info_int rfl _ _ _ rfl (oints_own HOwn.out) (.int .i64 x) rfl _ _ _ (by simp) rfl (by unfold maxLen; omega) (by omega) HB.out.size ?_; intro v' w' hown' hg' hb'))
                go_roundw
                case rel => exact ⟨k + 1, c2, k + 1, _, by omega, by go_num, by go_num, rfl, by rw [HC2.out, ← HM2.out]; simpa [OInts] using hown', HB.out.trans hb', fun h => HStep.out h, fun h => HLast.out h⟩
                case measure => simp [intOf]; omega
              · have hm := HFu.out hlen
                have HM2 := Lib.hid hm
                clear hm
                go_wp2_with fail
                go_roundw
                case rel => exact ⟨k + 1, c2, k + 1, _, by omega, by go_num, by go_num, rfl, by rw [HC2.out, ← HM2.out]; exact HOwn.out, HB.out, fun h => HStep.out h, fun h => HLast.out h⟩
                case measure => simp [intOf]; omega
        · obtain rfl : k = s.size + 1 := by omega
          have hE := hend rfl
          have HE : Hid (comp.take 30 = numsOf s.data.toList) := Lib.hid (by rw [hE, fieldsP, if_neg HNe.out]; rfl)
          have HOwn := Lib.hid hown
          have HB := Lib.hid hbl
          obtain ⟨Av, cv, rfl⟩ := OInts.form hown
          clear hE hend hp hown hbl hle hlt
          go_wp2_with fail
          go_ret2
          exact ⟨_, rfl, by rw [← HE.out]; exact HOwn.out, HB.out⟩
end Go.Proofs.YtfnamfkjbkhgeaaGreatDoor

namespace Go.Proofs.YtfnamfkjbkhgeaaGreatDoor

open Go.RowKit

theorem refParse_nil (s : ByteArray) (hne : s.data.toList = []) (w : World) :
    Calls Tryz.prog 84 #[.string s] w fun e w' => e = .returned (.tuple #[.slice none 0 0, .int .i64 0]) ∧ Below w.heap.size w w' := by
  have h0 : s.size = 0 := by rw [← data_len, hne]; rfl
  have hz : decide (0 < s.size) = false := by rw [h0]; decide
  have hse : s.toList.isEmpty = true := by rw [ByteArray.toList_eq, hne]; rfl
  have H0 := Lib.hid h0
  clear h0 hne
  go_enter Tryz.func84, Tryz.ntmps84
  go_wp2_with fail
  go_loop [4] (fun i => i = .int .i64 0) (fun i => 0)
  case atStart => exact rfl
  case round =>
    subst hrel
    go_wp2_with fail
    go_ret2
    exact ⟨rfl, Below.refl _ _⟩

set_option maxHeartbeats 1000000 in
theorem refParse_no (s : ByteArray) (hs : s.size ≤ 140737488355328) (hno : ¬ OkB s.data.toList) (w : World) :
    Calls Tryz.prog 84 #[.string s] w fun e w' => e = .returned (.tuple #[.slice none 0 0, .int .i64 3]) ∧ Below w.heap.size w w' := by
  obtain ⟨K, hK', hbad, hok⟩ := first_bad _ hno
  have hK : K < s.size := by simpa using hK'
  have hbad' : okb s[K] = false := hbad
  have HOk := Lib.hid hok
  have hB : s[K].toNat ≠ 59 ∧ (s[K].toNat < 48 ∨ 57 < s[K].toNat) := by
    simp [okb, UInt8.le_iff_toNat_le] at hbad'
    refine ⟨fun e => hbad'.1 (UInt8.toNat_inj.1 e), ?_⟩
    have := hbad'.2
    omega
  have HB := Lib.hid hB
  clear hok hno hbad hbad' hK' hB
  go_enter Tryz.func84, Tryz.ntmps84
  go_wp2_with fail
  go_loop [4] (fun i => ∃ k : Nat, k ≤ K ∧ i = .int .i64 k) (fun i => s.size - (intOf i).toNat)
  case atStart => exact ⟨0, by omega, rfl⟩
  case round =>
    obtain ⟨k, hk, rfl⟩ := hrel
    by_cases hlt : k < K
    · have hks : k < s.size := by omega
      have hb := HOk.out s[k] (by
        rw [← data_at s k hks]
        have hkl : k < (s.data.toList.take K).length := by rw [List.length_take, data_len]; omega
        have e : (s.data.toList.take K)[k] = s.data.toList[k]'(by rw [data_len]; exact hks) := by simp
        rw [← e]; exact List.getElem_mem hkl)
      by_cases h59 : s[k] = 59
      · have h59n : ((s[k].toNat : Int) != 59) = false := by rw [h59]; decide
        clear h59
        go_wp2_with fail
        go_round
        case rel => exact ⟨k + 1, by omega, by go_num⟩
        case measure => simp [intOf]; omega
      · obtain ⟨b0, b1⟩ := okb_digit hb h59
        have h59n : ((s[k].toNat : Int) != 59) = true := by
          have : s[k].toNat ≠ 59 := fun e => h59 (UInt8.toNat_inj.1 e)
          simp; omega
        have hd1 : decide ((s[k].toNat : Int) < 48) = false := by simp; omega
        have hd2 : decide ((s[k].toNat : Int) > 57) = false := by simp; omega
        clear h59 hb
        go_wp2_with fail
        go_round
        case rel => exact ⟨k + 1, by omega, by go_num⟩
        case measure => simp [intOf]; omega
    · obtain rfl : k = K := by omega
      obtain ⟨g1, g2⟩ := HB.out
      have h59n : ((s[k].toNat : Int) != 59) = true := by simp; omega
      clear g1 hlt hk
      rcases g2 with h | h
      · have hd1 : decide ((s[k].toNat : Int) < 48) = true := by simp; omega
        go_wp2_with fail
        go_ret2
        exact ⟨rfl, Below.refl _ _⟩
      · have hd1 : decide ((s[k].toNat : Int) < 48) = false := by simp; omega
        have hd2 : decide ((s[k].toNat : Int) > 57) = true := by simp; omega
        go_wp2_with fail
        go_ret2
        exact ⟨rfl, Below.refl _ _⟩

/-- Both ways of reading a text of such bytes: the same numbers. -/
theorem refParse_ok (s : ByteArray) (hs : s.size ≤ 140737488355328) (hok : OkB s.data.toList) (w : World) :
    Calls Tryz.prog 84 #[.string s] w fun e w' => ∃ v, e = .returned (.tuple #[v, .int .i64 0]) ∧ OInts w' w.heap.size v (numsOf s.data.toList) ∧ Below w.heap.size w w' := by
  by_cases hne : s.data.toList = []
  · refine (refParse_nil s hne w).mono fun e w' ⟨he, hb⟩ => ⟨_, he, ?_, hb⟩
    rw [hne]
    exact World.ownsRow_nil _ _ _ _
  · exact refParse_yes s hs hok hne w
end Go.Proofs.YtfnamfkjbkhgeaaGreatDoor

namespace Go.Proofs.YtfnamfkjbkhgeaaGreatDoor

open Go.RowKit

/-- The numbers and the error that a text gives. -/
def parseV (l : List UInt8) : List Int × Int := if l.all okb then (numsOf l, 0) else ([], 3)
theorem all_okb (l : List UInt8) : l.all okb = true ↔ OkB l := by unfold OkB; simp
theorem parseV_yes {l : List UInt8} (h : OkB l) : parseV l = (numsOf l, 0) := if_pos ((all_okb l).2 h)
theorem parseV_no {l : List UInt8} (h : ¬ OkB l) : parseV l = ([], 3) := if_neg (fun h' => h ((all_okb l).1 h'))
theorem parseV_range (l : List UInt8) : InF (parseV l).1 ∧ (parseV l).1.length ≤ 30 ∧ ((parseV l).2 = 0 ∨ (parseV l).2 = 3) := by
  by_cases h : OkB l
  · rw [parseV_yes h]; exact ⟨numsOf_range h, numsOf_len l, .inl rfl⟩
  · rw [parseV_no h]; exact ⟨fun n hn => by simp at hn, by simp, .inr rfl⟩
/-- What such a call answers, and that its list is memory of its own. -/
def Gave (w' : World) (base : Nat) (ns : List Int) (er : Int) (e : Ending) : Prop := ∃ A c, e = .returned (.tuple #[.slice A ns.length c, .int .i64 er]) ∧ OInts w' base (.slice A ns.length c) ns
theorem gave_of {w' : World} {base : Nat} {ns : List Int} {e : Ending} {v : Value} (he : e = .returned (.tuple #[v, .int .i64 0])) (h : OInts w' base v ns) : Gave w' base ns 0 e := by
  obtain ⟨A, c, rfl⟩ := OInts.form h
  exact ⟨A, c, he, h⟩
theorem gave_nil {w' : World} {base : Nat} {e : Ending} (he : e = .returned (.tuple #[.slice none 0 0, .int .i64 3])) : Gave w' base [] 3 e := ⟨none, 0, he, World.ownsRow_nil _ _ _ _⟩
theorem parse_all (s : ByteArray) (hs : s.size ≤ maxLen) (w : World) :
    Calls Tryz.prog 49 #[.string s] w fun e w' => Gave w' w.heap.size (parseV s.data.toList).1 (parseV s.data.toList).2 e ∧ Below w.heap.size w w' := by
  by_cases h : OkB s.data.toList
  · rw [parseV_yes h]
    exact (parse_yes s hs h w).mono fun e w' ⟨v, he, ho, hb⟩ => ⟨gave_of he ho, hb⟩
  · rw [parseV_no h]
    exact (parse_no s hs h w).mono fun e w' ⟨he, hb⟩ => ⟨gave_nil he, hb⟩
theorem refParse_all (s : ByteArray) (hs : s.size ≤ 140737488355328) (w : World) :
    Calls Tryz.prog 84 #[.string s] w fun e w' => Gave w' w.heap.size (parseV s.data.toList).1 (parseV s.data.toList).2 e ∧ Below w.heap.size w w' := by
  by_cases h : OkB s.data.toList
  · rw [parseV_yes h]
    exact (refParse_ok s hs h w).mono fun e w' ⟨v, he, ho, hb⟩ => ⟨gave_of he ho, hb⟩
  · rw [parseV_no h]
    exact (refParse_no s hs h w).mono fun e w' ⟨he, hb⟩ => ⟨gave_nil he, hb⟩
end Go.Proofs.YtfnamfkjbkhgeaaGreatDoor

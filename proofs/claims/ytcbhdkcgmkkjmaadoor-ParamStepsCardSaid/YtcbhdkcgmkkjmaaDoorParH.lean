/-
  The walk of the reference that reads a text of numbers piece by piece.
-/
import Derived.Test.YtcbhdkcgmkkjmaaDoorParG
namespace Go.Proofs.YtcbhdkcgmkkjmaaDoor

open Go.RowKit

theorem data_len (s : ByteArray) : s.data.toList.length = s.size := by show s.data.toList.length = s.data.size; simp
theorem data_at (s : ByteArray) (k : Nat) (hk : k < s.size) : s.data.toList[k]'(by rw [data_len]; exact hk) = s[k] := by simp; rfl
set_option maxHeartbeats 4000000 in
theorem refParse_yes (s : ByteArray) (hs : s.size ≤ 140737488355328) (hok : OkB s.data.toList) (hne : s.data.toList ≠ []) (w : World) :
    Calls Tryd.prog 7 #[.string s] w fun e w' => ∃ v, e = .returned (.tuple #[v, .int .i64 0]) ∧ OInts w' w.heap.size v (numsOf s.data.toList) ∧ Below w.heap.size w w' := by
  have HOk := Lib.hid hok
  have HNe := Lib.hid hne
  have hl0 : 0 < s.size := by rw [← data_len]; exact List.length_pos_iff.2 hne
  have hse : s.toList.isEmpty = false := by
    rw [ByteArray.toList_eq]
    cases h : s.data.toList with
    | nil => exact absurd h hne
    | cons a b => rfl
  clear hok hne
  go_enter Tryd.func7, Tryd.ntmps7
  go_wp2_with fail
  go_loop [4] (fun i => ∃ k : Nat, k ≤ s.size ∧ i = .int .i64 k) (fun i => s.size - (intOf i).toNat)
  case atStart => exact ⟨0, by omega, rfl⟩
  case round =>
    obtain ⟨k, hk, rfl⟩ := hrel
    by_cases hlt : k < s.size
    · have hb := HOk.out s[k] (by rw [← data_at s k hlt]; exact List.getElem_mem _)
      by_cases h59 : s[k] = 59
      · have h59n : ((s[k].toNat : Int) != 59) = false := by rw [h59]; decide
        clear h59
        go_wp2_with fail
        go_round
        case rel => exact ⟨k + 1, by omega, by go_num⟩
        case measure => simp [intOf]; omega
      · obtain ⟨b0, b1⟩ := okb_digit hb h59
        have h59n : ((s[k].toNat : Int) != 59) = true := by
          have : s[k].toNat ≠ 59 := fun e => h59 (UInt8.toNat_inj.1 e)
          simp; omega
        have hd1 : decide ((s[k].toNat : Int) < 48) = false := by simp; omega
        have hd2 : decide ((s[k].toNat : Int) > 57) = false := by simp; omega
        clear h59 hb
        go_wp2_with fail
        go_round
        case rel => exact ⟨k + 1, by omega, by go_num⟩
        case measure => simp [intOf]; omega
    · obtain rfl : k = s.size := by omega
      go_wp2_with fail
      go_loopw [5, 6, 7] (fun o b i wr => ∃ (k : Nat) (comp : List Int) (bg : Nat) (v : Value), k ≤ s.size + 1 ∧ i = .int .i64 k ∧ b = .int .i64 bg ∧ o = v ∧ OInts wr w.heap.size v (comp.take 30) ∧ Below w.heap.size w wr ∧ (k ≤ s.size → PieceAt s.data.toList k comp bg) ∧ (k = s.size + 1 → comp = fieldsP s.data.toList)) (fun _ _ i _ => s.size + 1 - (intOf i).toNat)
      case atStart => exact ⟨0, [], 0, _, by omega, rfl, rfl, rfl, World.ownsRow_nil _ _ _ _, Below.refl _ _, fun _ => piece_start _, fun h => absurd h (by omega)⟩
      case round =>
        obtain ⟨k, comp, bg, v, hk, rfl, rfl, rfl, hown, hbl, hp, hend⟩ := hrel
        by_cases hle : k ≤ s.size
        · have hp := hp hle
          clear hend hlt
          have HP := Lib.hid hp
          have HOwn := Lib.hid hown
          have HB := Lib.hid hbl
          have hbgk := hp.1
          obtain ⟨Av, cv, rfl⟩ := OInts.form hown
          clear hp hown hbl
          by_cases hcont : ∃ h : k < s.size, s[k] ≠ 59
          · obtain ⟨hltk, h59⟩ := hcont
            have hd := HOk.out s[k] (by rw [← data_at s k hltk]; exact List.getElem_mem _)
            obtain ⟨b0, b1⟩ := okb_digit hd h59
            have h59n : ((s[k].toNat : Int) != 59) = true := by
              have : s[k].toNat ≠ 59 := fun e => h59 (UInt8.toNat_inj.1 e)
              simp; omega
            have HP2 := Lib.hid (piece_digit _ k (by rw [data_len]; exact hltk) (by rw [data_at s k hltk]; exact h59) comp bg HP.out)
            clear h59 hd
            have hdl : decide ((k : Int) < s.size) = true := by simp; omega
            go_wp2_with fail
            go_roundw
            case rel => exact ⟨k + 1, comp, bg, _, by omega, by go_num, rfl, rfl, HOwn.out, HB.out, fun _ => HP2.out, fun h => absurd h (by omega)⟩
            case measure => simp [intOf]; omega
          · have hsd : ∀ b ∈ (s.extract bg k).data.toList, 48 ≤ b.toNat ∧ b.toNat ≤ 57 := by
              intro b hb
              rw [Lib.extract_data] at hb
              exact okb_digit (HOk.out b (List.mem_of_mem_drop (List.mem_of_mem_take hb))) (HP.out.2.1 b hb)
            have HSz : Hid ((s.extract bg k).size ≤ maxLen) := Lib.hid (by unfold maxLen; simp; omega)
            have hnum := number_any (s.extract bg k) HSz.out hsd
            rw [show sat (s.extract bg k).data.toList = sat (seg s.data.toList bg k) from by rw [Lib.extract_data]; rfl] at hnum
            have HNum := Lib.hid hnum
            clear hnum
            clear hsd
            obtain ⟨c2, hc2, hstep, hlast⟩ : ∃ c2, c2 = comp ++ [sat (seg s.data.toList bg k)] ∧ (k + 1 ≤ s.size → PieceAt s.data.toList (k + 1) c2 (k + 1)) ∧ (k + 1 = s.size + 1 → c2 = fieldsP s.data.toList) := by
              refine ⟨_, rfl, fun h => ?_, fun h => ?_⟩
              · have hltk : k < s.size := by omega
                have h59 : s[k] = 59 := Classical.byContradiction fun hne => hcont ⟨hltk, hne⟩
                exact piece_semi _ k (by rw [data_len]; exact hltk) (by rw [data_at s k hltk]; exact h59) comp bg HP.out
              · have : k = s.data.toList.length := by rw [data_len]; omega
                have hp := HP.out
                rw [this] at hp ⊢
                exact piece_end _ comp bg hp
            have HC2 := Lib.hid hc2
            have HStep := Lib.hid hstep
            have HLast := Lib.hid hlast
            clear hc2 hstep hlast
            have hcc : (∃ h : k < s.size, ((s[k].toNat : Int) != 59) = false) ∨ k = s.size := by
              rcases Nat.lt_or_ge k s.size with h | h
              · have h59 : s[k] = 59 := Classical.byContradiction fun hne => hcont ⟨h, hne⟩
                exact .inl ⟨h, by rw [h59]; decide⟩
              · exact .inr (by omega)
            clear hcont
            have hF : (comp.take 30).length < 30 ∨ ¬ (comp.take 30).length < 30 := Decidable.em _
            have HM := Lib.hid (keep_more comp (sat (seg s.data.toList bg k)))
            have HFu := Lib.hid (keep_full comp (sat (seg s.data.toList bg k)))
            generalize comp.take 30 = ns at *
            generalize sat (seg s.data.toList bg k) = x at *
            have hdl : (decide ((k : Int) < s.size) = true ∧ ∃ h : k < s.size, ((s[k].toNat : Int) != 59) = false) ∨ decide (k < s.size) = false := by
              rcases hcc with h | h
              · exact .inl ⟨by have := h.1; simp; omega, h⟩
              · exact .inr (by simp; omega)
            clear hcc
            rcases hdl with ⟨hdl, hltk, h59n⟩ | hdl
            all_goals
              rcases hF with hlen | hlen
              · have hm := HM.out hlen
                have HM2 := Lib.hid hm
                clear hm
                go_wp2_with (first
                  | (go_at_call 16; refine (HNum.out _).mono ?_; rintro e w1 ⟨rfl, rfl⟩)
                  | (at_builtin; refine wpList_push rfl _ _ _ rfl w.heap.size 3 (.int .i64 0) 8 Tryd.underlying28 info_int rfl _ _ _ rfl (oints_own HOwn.out) (.int .i64 x) rfl _ _ _ (by simp) rfl (by unfold maxLen; omega) (by omega) HB.out.size ?_; intro v' w' hown' hg' hb'))
                go_roundw
                case rel => exact ⟨k + 1, c2, k + 1, _, by omega, by go_num, by go_num, rfl, by rw [HC2.out, ← HM2.out]; simpa [OInts] using hown', HB.out.trans hb', fun h => HStep.out h, fun h => HLast.out h⟩
                case measure => simp [intOf]; omega
              · have hm := HFu.out hlen
                have HM2 := Lib.hid hm
                clear hm
                go_wp2_with fail
                go_roundw
                case rel => exact ⟨k + 1, c2, k + 1, _, by omega, by go_num, by go_num, rfl, by rw [HC2.out, ← HM2.out]; exact HOwn.out, HB.out, fun h => HStep.out h, fun h => HLast.out h⟩
                case measure => simp [intOf]; omega
        · obtain rfl : k = s.size + 1 := by omega
          have hE := hend rfl
          have HE : Hid (comp.take 30 = numsOf s.data.toList) := Lib.hid (by rw [hE, fieldsP, if_neg HNe.out]; rfl)
          have HOwn := Lib.hid hown
          have HB := Lib.hid hbl
          obtain ⟨Av, cv, rfl⟩ := OInts.form hown
          clear hE hend hp hown hbl hle hlt
          go_wp2_with fail
          go_ret2
          exact ⟨_, rfl, by rw [← HE.out]; exact HOwn.out, HB.out⟩
end Go.Proofs.YtcbhdkcgmkkjmaaDoor

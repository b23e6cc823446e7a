/-
  The walk of the reference that reads a text of numbers: no bytes; a byte that may not be.
-/
import Derived.Test.YtcbhdkcgmkkjmaaDoorParH
namespace Go.Proofs.YtcbhdkcgmkkjmaaDoor

open Go.RowKit

theorem refParse_nil (s : ByteArray) (hne : s.data.toList = []) (w : World) :
    Calls Tryd.prog 7 #[.string s] w fun e w' => e = .returned (.tuple #[.slice none 0 0, .int .i64 0]) ∧ Below w.heap.size w w' := by
  have h0 : s.size = 0 := by rw [← data_len, hne]; rfl
  have hz : decide (0 < s.size) = false := by rw [h0]; decide
  have hse : s.toList.isEmpty = true := by rw [ByteArray.toList_eq, hne]; rfl
  have H0 := Lib.hid h0
  clear h0 hne
  go_enter Tryd.func7, Tryd.ntmps7
  go_wp2_with fail
  go_loop [4] (fun i => i = .int .i64 0) (fun i => 0)
  case atStart => exact rfl
  case round =>
    subst hrel
    go_wp2_with fail
    go_ret2
    exact ⟨rfl, Below.refl _ _⟩

set_option maxHeartbeats 1000000 in
theorem refParse_no (s : ByteArray) (hs : s.size ≤ 140737488355328) (hno : ¬ OkB s.data.toList) (w : World) :
    Calls Tryd.prog 7 #[.string s] w fun e w' => e = .returned (.tuple #[.slice none 0 0, .int .i64 3]) ∧ Below w.heap.size w w' := by
  obtain ⟨K, hK', hbad, hok⟩ := first_bad _ hno
  have hK : K < s.size := by simpa using hK'
  have hbad' : okb s[K] = false := hbad
  have HOk := Lib.hid hok
  have hB : s[K].toNat ≠ 59 ∧ (s[K].toNat < 48 ∨ 57 < s[K].toNat) := by
    simp [okb, UInt8.le_iff_toNat_le] at hbad'
    refine ⟨fun e => hbad'.1 (UInt8.toNat_inj.1 e), ?_⟩
    have := hbad'.2
    omega
  have HB := Lib.hid hB
  clear hok hno hbad hbad' hK' hB
  go_enter Tryd.func7, Tryd.ntmps7
  go_wp2_with fail
  go_loop [4] (fun i => ∃ k : Nat, k ≤ K ∧ i = .int .i64 k) (fun i => s.size - (intOf i).toNat)
  case atStart => exact ⟨0, by omega, rfl⟩
  case round =>
    obtain ⟨k, hk, rfl⟩ := hrel
    by_cases hlt : k < K
    · have hks : k < s.size := by omega
      have hb := HOk.out s[k] (by
        rw [← data_at s k hks]
        have hkl : k < (s.data.toList.take K).length := by rw [List.length_take, data_len]; omega
        have e : (s.data.toList.take K)[k] = s.data.toList[k]'(by rw [data_len]; exact hks) := by simp
        rw [← e]; exact List.getElem_mem hkl)
      by_cases h59 : s[k] = 59
      · have h59n : ((s[k].toNat : Int) != 59) = false := by rw [h59]; decide
        clear h59
        go_wp2_with fail
        go_round
        case rel => exact ⟨k + 1, by omega, by go_num⟩
        case measure => simp [intOf]; omega
      · obtain ⟨b0, b1⟩ := okb_digit hb h59
        have h59n : ((s[k].toNat : Int) != 59) = true := by
          have : s[k].toNat ≠ 59 := fun e => h59 (UInt8.toNat_inj.1 e)
          simp; omega
        have hd1 : decide ((s[k].toNat : Int) < 48) = false := by simp; omega
        have hd2 : decide ((s[k].toNat : Int) > 57) = false := by simp; omega
        clear h59 hb
        go_wp2_with fail
        go_round
        case rel => exact ⟨k + 1, by omega, by go_num⟩
        case measure => simp [intOf]; omega
    · obtain rfl : k = K := by omega
      obtain ⟨g1, g2⟩ := HB.out
      have h59n : ((s[k].toNat : Int) != 59) = true := by simp; omega
      clear g1 hlt hk
      rcases g2 with h | h
      · have hd1 : decide ((s[k].toNat : Int) < 48) = true := by simp; omega
        go_wp2_with fail
        go_ret2
        exact ⟨rfl, Below.refl _ _⟩
      · have hd1 : decide ((s[k].toNat : Int) < 48) = false := by simp; omega
        have hd2 : decide ((s[k].toNat : Int) > 57) = true := by simp; omega
        go_wp2_with fail
        go_ret2
        exact ⟨rfl, Below.refl _ _⟩

/-- Both ways of reading a text of such bytes: the same numbers. -/
theorem refParse_ok (s : ByteArray) (hs : s.size ≤ 140737488355328) (hok : OkB s.data.toList) (w : World) :
    Calls Tryd.prog 7 #[.string s] w fun e w' => ∃ v, e = .returned (.tuple #[v, .int .i64 0]) ∧ OInts w' w.heap.size v (numsOf s.data.toList) ∧ Below w.heap.size w w' := by
  by_cases hne : s.data.toList = []
  · refine (refParse_nil s hne w).mono fun e w' ⟨he, hb⟩ => ⟨_, he, ?_, hb⟩
    rw [hne]
    exact World.ownsRow_nil _ _ _ _
  · exact refParse_yes s hs hok hne w
end Go.Proofs.YtcbhdkcgmkkjmaaDoor

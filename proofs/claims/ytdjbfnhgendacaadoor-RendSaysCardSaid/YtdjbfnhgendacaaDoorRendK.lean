/-
  The walk by which the reference reads letters: the first rendition that has them.
-/
import Derived.Test.YtdjbfnhgendacaaDoorRendH
import Derived.ProofKit
namespace Go.Proofs.YtdjbfnhgendacaaDoor
open Go.RowKit

theorem str_beq (a b : ByteArray) : (a.toList == b.toList) = decide (a = b) := by
  by_cases h : a = b
  · subst h; simp
  · have hne : a.toList ≠ b.toList := fun e => h (WideShapes.bytes_inj (by rw [ByteArray.toList_eq, ByteArray.toList_eq] at e; exact e))
    simp [h, hne]
/-- The first rendition from n on that has the letters. -/
def seekL (s : ByteArray) (n : Nat) : Option Nat := ((List.range' n (32 - n)).find? fun m => decide (letS (m : Int) = s))

theorem seekL_hit {s : ByteArray} {k : Nat} (hk : k < 32) (he : letS (k : Int) = s) : seekL s k = some k := by
  unfold seekL
  obtain ⟨m, hm⟩ : ∃ m, 32 - k = m + 1 := ⟨31 - k, by omega⟩
  rw [hm, List.range'_succ, List.find?_cons_of_pos (by simpa using he)]
theorem seekL_miss {s : ByteArray} {k : Nat} (hk : k < 32) (he : ¬ letS (k : Int) = s) : seekL s k = seekL s (k + 1) := by
  unfold seekL
  obtain ⟨m, hm⟩ : ∃ m, 32 - k = m + 1 := ⟨31 - k, by omega⟩
  rw [hm, List.range'_succ, List.find?_cons_of_neg (by simpa using he), show 32 - (k + 1) = m from by omega]

set_option maxHeartbeats 800000 in
theorem refFromLetters_any (s : ByteArray) (w : World) :
    Calls Tryd.prog 28 #[.string s] w fun e w' =>
      e = .returned (.tuple #[.int .u8 (((seekL s 0).getD 0 : Nat) : Int), .bool (seekL s 0).isSome]) ∧ Below w.heap.size w w' := by
  go_enter Tryd.func28, Tryd.ntmps28
  go_wp2_with fail
  go_loopw [4] (fun i wr => ∃ k : Nat, k ≤ 32 ∧ i = .int .i64 k ∧ seekL s k = seekL s 0 ∧ Below w.heap.size w wr) (fun i _ => 32 - (intOf i).toNat)
  case atStart => exact ⟨0, by omega, rfl, rfl, Below.refl _ _⟩
  case round =>
    obtain ⟨k, hk, rfl, hsk, hb⟩ := hrel
    have HSk := Lib.hid hsk
    clear hsk
    by_cases hlt : k < 32
    · by_cases he : letS (k : Int) = s
      · have hbeq : ((letS (k : Int)).toList == s.toList) = true := by rw [str_beq]; simp [he]
        have HF : Hid (seekL s 0 = some k) := by rw [← HSk.out]; exact seekL_hit hlt he
        clear he
        go_wp2_with (go_at_call 27; refine (refLetters_any (k : Int) (by omega) (by omega) _).mono ?_; rintro e w1 ⟨rfl, hb1⟩)
        go_ret2
        exact ⟨by rw [HF.out]; rfl, hb.trans (hb1.mono hb.size)⟩
      · have hbeq : ((letS (k : Int)).toList == s.toList) = false := by rw [str_beq]; simp [he]
        have HF : Hid (seekL s (k + 1) = seekL s 0) := by rw [← HSk.out]; exact (seekL_miss hlt he).symm
        clear he
        go_wp2_with (go_at_call 27; refine (refLetters_any (k : Int) (by omega) (by omega) _).mono ?_; rintro e w1 ⟨rfl, hb1⟩)
        go_roundw
        case rel => exact ⟨k + 1, by omega, by go_num, HF.out, hb.trans (hb1.mono hb.size)⟩
        case measure => simp [intOf]; omega
    · obtain rfl : k = 32 := by omega
      have HN : Hid (seekL s 0 = none) := by rw [← HSk.out]; rfl
      clear hk hlt
      go_wp2
      go_ret2
      exact ⟨by rw [HN.out]; rfl, hb⟩
end Go.Proofs.YtdjbfnhgendacaaDoor

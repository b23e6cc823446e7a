/-
  Tokens: the reference's check.
-/
import Derived.Test.YtnbbepkkedhhgaaGreatDoorTokM
namespace Go.Proofs.YtnbbepkkedhhgaaGreatDoor

open Go Go.RowKit

def codeQ (k : Int) (c : Nat) (s : ByteArray) : Bool :=
  if k = 1 then amongB c 32 126 || decide (160 ≤ c)
  else if k = 2 then amongB c 1 31 && ((c != 24) && (c != 27))
  else if k = 3 then (if decide (s.size = 0) && ((begunP c != 0) || (c == 92)) then false else amongB c 48 126)
  else if k = 4 ∨ k = 5 then amongB c 64 126
  else c == 0
theorem code_same (k : Int) (c : Nat) (s : ByteArray) : codeQ k c s = if k = 1 ∨ k = 2 ∨ k = 3 ∨ k = 4 ∨ k = 5 then codedB k c s else c == 0 := by
  unfold codeQ codedB
  by_cases k1 : k = 1
  · subst k1; rfl
  · by_cases k2 : k = 2
    · subst k2; rfl
    · by_cases k3 : k = 3
      · subst k3
        show (if (decide (s.size = 0) && ((begunP c != 0) || (c == 92))) = true then false else amongB c 48 126) = (amongB c 48 126 && (!decide (s.size = 0) || !leadsB c))
        rw [begun_leads]
        cases decide (s.size = 0) <;> cases (begunP c != 0) <;> cases (c == 92) <;> cases amongB c 48 126 <;> rfl
      · by_cases k4 : k = 4 ∨ k = 5
        · rw [if_neg k1, if_neg k2, if_neg k3, if_pos k4, if_pos (by omega), if_neg k1, if_neg k2, if_neg k3, if_pos k4]
        · rw [if_neg k1, if_neg k2, if_neg k3, if_neg k4, if_neg (by omega)]
theorem le_lit (a : Nat) (n : Nat) : decide ((a : Int) ≤ (n : Int)) = decide (a ≤ n) := by simp

end Go.Proofs.YtnbbepkkedhhgaaGreatDoor

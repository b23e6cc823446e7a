/-
  Tokens: what the reference's check answers.
-/
import Derived.Test.YtnbbepkkedhhgaaGreatDoorTokN
namespace Go.Proofs.YtnbbepkkedhhgaaGreatDoor

open Go Go.RowKit

def rngB (n : Int) : Bool := !decide (n < 0) && !decide (65535 < n)
def pick8 (bK bS qr qi qd qc bM bL : Bool) : Int := if bK then 1 else if bS then 2 else if !qr then 2 else if !qi then 3 else if !qd then 3 else if !qc then 3 else if bM then 3 else if bL then 3 else 0
def lateB (k : Int) (m : Nat) (ps : List Int) (s : ByteArray) (dt : List Nat) : Bool :=
  (!((k == 4) || (k == 5)) && ((m != 0) || decide (0 < ps.length))) || ((!((k == 4) || (k == 5)) && ((k != 3) && !(decide (s.size = 0)))) || (decide (k < 5) && decide (0 < dt.length)))
def refChkP (k : Int) (c m : Nat) (ps : List Int) (s : ByteArray) (dt : List Nat) : Int :=
  pick8 (decide (k < 1) || decide (9 < k)) (decide (3 < s.size) || (decide (30 < ps.length) || decide (4096 < dt.length))) (ps.all rngB) (s.data.toList.all interB) (dt.all dataB) (codeQ k c s) ((m != 0) && (decide (m < 60) || decide (63 < m))) (lateB k m ps s dt)
theorem allR_step {ps : List Int} {j : Nat} (hj : j < ps.length) (h : (ps.take j).all rngB = true) : (rngB ps[j] = true → (ps.take (j + 1)).all rngB = true) ∧ (rngB ps[j] = false → ps.all rngB = false) := by
  constructor
  · intro hi
    rw [take_snoc _ j hj, List.all_append, h]
    simp [hi]
  · intro hi
    rcases he : ps.all rngB with _ | _
    · rfl
    · have := List.all_eq_true.1 he _ (List.getElem_mem hj)
      rw [hi] at this
      cases this
theorem allD_step {ps : List Nat} {j : Nat} (hj : j < ps.length) (h : (ps.take j).all dataB = true) : (dataB ps[j] = true → (ps.take (j + 1)).all dataB = true) ∧ (dataB ps[j] = false → ps.all dataB = false) := by
  constructor
  · intro hi
    rw [take_snoc _ j hj, List.all_append, h]
    simp [hi]
  · intro hi
    rcases he : ps.all dataB with _ | _
    · rfl
    · have := List.all_eq_true.1 he _ (List.getElem_mem hj)
      rw [hi] at this
      cases this
theorem lt_lit (a n : Nat) : decide ((a : Int) < (n : Int)) = decide (a < n) := by simp

end Go.Proofs.YtnbbepkkedhhgaaGreatDoor

/-
  Tokens: what the reference says of bytes and of what begins a kind.
-/
import Derived.Test.YtnbbepkkedhhgaaGreatDoorTokL
namespace Go.Proofs.YtnbbepkkedhhgaaGreatDoor

open Go Go.RowKit

def dataB (n : Nat) : Bool := amongB n 8 13 || (amongB n 32 126 || decide (160 ≤ n))
theorem noData_eq (n : Nat) : noDataB n = !dataB n := by
  unfold noDataB dataB amongB
  rw [Bool.eq_iff_iff]
  simp


/-- The kind that a byte behind an escape begins; 0: none. -/
def begunP (c : Nat) : Nat := if c = 91 then 4 else if c = 80 then 5 else if c = 93 then 6 else if c = 88 then 7 else if c = 94 then 8 else if c = 95 then 9 else 0
theorem begun_le (c : Nat) : begunP c ≤ 9 := by unfold begunP; repeat' split <;> try omega
theorem begun_leads (c : Nat) : leadsB c = ((begunP c != 0) || (c == 92)) := by
  unfold leadsB begunP
  rw [Bool.eq_iff_iff]
  simp
  repeat' split <;> try omega
theorem begun_ge (c : Nat) : begunP c = 0 ∨ 4 ≤ begunP c := by unfold begunP; repeat' split <;> try omega

end Go.Proofs.YtnbbepkkedhhgaaGreatDoor

/-
  Cursors, the document's own answers: by steps.
-/
import Derived.Test.YtilfhilebdkmkaaCurI
namespace Go.Proofs.Ytilfhilebdkmkaa
open Go Go.RowKit

/-- Steps down to a first number, one by one: how many there are, and what stands at each. -/
theorem few_steps (p n m : Int) (hp : 0 ≤ p ∧ p ≤ 2000) (hm : 0 ≤ m ∧ m ≤ 2000) : ∃ S : Nat, S ≤ 2000 ∧ (S : Int) ≤ p ∧ (∀ k : Nat, k < S → (p - k == m) = false ∧ 0 ≤ p - k - 1) ∧
    ((p - S == m) = true ∨ ((p - S == m) = false ∧ p - S - 1 < 0)) ∧ (∀ k : Nat, k ≤ S → (k : Int) = max n 0 ∨ (k = S ∧ (k : Int) < n) → fewP p n 0 m = p - k) := by
  refine ⟨(p - if m ≤ p then m else 0).toNat, ?_, ?_, ?_, ?_, ?_⟩
  · split <;> omega
  · split <;> omega
  · intro k hk
    split at hk
    · exact ⟨by simp; omega, by omega⟩
    · exact ⟨by simp; omega, by omega⟩
  · split
    · left; simp; omega
    · right; exact ⟨by simp; omega, by omega⟩
  · intro k hk hh
    unfold fewP clipP
    split at hk <;> split at hh <;> (try split) <;> omega
theorem more_steps (p n m D : Int) (hp : 0 ≤ p ∧ p ≤ D - 1) (hD : D ≤ 2000) (hm : 1 ≤ m ∧ m ≤ D) : ∃ S : Nat, S ≤ 2000 ∧ p + S ≤ D - 1 ∧ (∀ k : Nat, k < S → (p + k == m - 1) = false ∧ p + k + 1 < D) ∧
    ((p + S == m - 1) = true ∨ ((p + S == m - 1) = false ∧ D ≤ p + S + 1)) ∧ (∀ k : Nat, k ≤ S → (k : Int) = max n 0 ∨ (k = S ∧ (k : Int) < n) → moreP p n (D - 1) (m - 1) = p + k) := by
  refine ⟨((if p ≤ m - 1 then m - 1 else D - 1) - p).toNat, ?_, ?_, ?_, ?_, ?_⟩
  · split <;> omega
  · split <;> omega
  · intro k hk
    split at hk
    · exact ⟨by simp; omega, by omega⟩
    · exact ⟨by simp; omega, by omega⟩
  · split
    · left; simp; omega
    · right; exact ⟨by simp; omega, by omega⟩
  · intro k hk hh
    unfold moreP clipP
    split at hk <;> split at hh <;> (try split) <;> omega
end Go.Proofs.Ytilfhilebdkmkaa

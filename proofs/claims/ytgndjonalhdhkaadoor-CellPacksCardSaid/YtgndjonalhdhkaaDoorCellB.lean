/-
  The walks of the reference of cells: a blank, a cell's weight.
-/
import Derived.Test.YtgndjonalhdhkaaDoorCellA
namespace Go.Proofs.YtgndjonalhdhkaaDoor

open Go.RowKit

theorem tmod_facts (g : Int) : (0 ≤ g.tmod 65536 ∧ g.tmod 65536 < 65536 ∧ g.tmod 65536 = g % 65536) ∨ (-65536 < g.tmod 65536 ∧ g.tmod 65536 < 0 ∧ g.tmod 65536 + 65536 = g % 65536) := by
  rcases Int.le_total 0 g with h | h
  · left
    rw [Int.tmod_eq_emod_of_nonneg h]
    omega
  · obtain ⟨n, rfl⟩ : ∃ n, g = -n := ⟨-g, by omega⟩
    rw [Int.neg_tmod, Int.tmod_eq_emod_of_nonneg (by omega)]
    omega


end Go.Proofs.YtgndjonalhdhkaaDoor

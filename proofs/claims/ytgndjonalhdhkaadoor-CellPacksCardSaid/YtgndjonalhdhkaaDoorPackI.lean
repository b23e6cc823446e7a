/-
  The plain mathematics of the reference's way to write runs: from a place on, as many as are alike.
-/
import Derived.Test.YtgndjonalhdhkaaDoorPackG
namespace Go.Proofs.YtgndjonalhdhkaaDoor

open Go.RowKit

/-- The last run does not take what stands at i. -/
def EndAt (l : List Cl) (i : Nat) (rs : List Rn) : Prop := ∀ pre y z, rs = pre ++ [y] → l[i]? = some z → takesC y.2 y.1 z = false
theorem alike_take (l : List Cl) (i n : Nat) (z : Cl) (he : ∀ j, j < n → l[i + j]? = some z) : l.take (i + n) = l.take i ++ List.replicate n z := by
  rw [List.take_add]
  congr 1
  apply List.ext_getElem?
  intro j
  by_cases hj : j < n
  · rw [List.getElem?_take_of_lt hj, List.getElem?_drop, he j hj, List.getElem?_replicate, if_pos hj]
  · rw [List.getElem?_eq_none (by rw [List.length_take]; omega), List.getElem?_eq_none (by simp; omega)]
theorem runs_step (l : List Cl) (i n : Nat) (z : Cl) (h1 : 1 ≤ n) (h2 : n ≤ 255) (he : ∀ j, j < n → l[i + j]? = some z)
    (hend : n = 255 ∨ l[i + n]? ≠ some z) (E : EndAt l i (runsL (l.take i))) :
    runsL (l.take (i + n)) = runsL (l.take i) ++ [(z, n)] ∧ EndAt l (i + n) (runsL (l.take (i + n))) := by
  have e1 : runsL (l.take (i + n)) = runsL (l.take i) ++ [(z, n)] := by
    rw [alike_take l i n z he]
    unfold runsL
    rw [List.foldl_append]
    exact addR_run (z, n) ⟨h1, h2⟩ _ (fun pre y hp => E pre y z hp (by simpa using he 0 (by omega)))
  refine ⟨e1, fun pre y u hp hu => ?_⟩
  rw [e1] at hp
  have hy : y = (z, n) := by
    have := congrArg List.getLast? hp
    simpa using this.symm
  subst hy
  show takesC n z u = false
  rw [← Bool.not_eq_true, takesC_iff]
  rintro ⟨_, h4, rfl⟩
  rcases hend with h5 | h5
  · omega
  · exact h5 hu
theorem end_start (l : List Cl) : EndAt l 0 (runsL (l.take 0)) := fun pre y z hp _ => by simp [runsL] at hp
end Go.Proofs.YtgndjonalhdhkaaDoor

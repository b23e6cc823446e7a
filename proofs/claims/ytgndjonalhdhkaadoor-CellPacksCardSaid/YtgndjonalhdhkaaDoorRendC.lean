/-
  The walks of the reference of renditions: the five parts of one, and one of five parts; its weight.
-/
import Derived.Test.YtgndjonalhdhkaaDoorKit
import Derived.Deep.DeepCutAuto
namespace Go.Proofs.YtgndjonalhdhkaaDoor

open Go.RowKit

/-- The five parts as the program lays them. -/
def parts (x : Int) : Value := .agg #[.bool (fb x 0), .bool (fb x 1), .bool (fb x 2), .bool (fb x 3), .bool (fb x 4)]
/-- Some more, if so. -/
def some_ (b : Bool) (n : Int) : Int := if b then n else 0
/-- A number that has been added up: it lies within bounds, and what it is stands behind a name. -/
def Sum_ (n lo hi v : Int) : Prop := n = v ∧ lo ≤ n ∧ n ≤ hi
theorem sum_step {n hi v : Int} (h : Sum_ n 0 hi v) (b : Bool) (k : Int) (hk : 0 ≤ k) : Sum_ (n + some_ b k) 0 (hi + k) (v + some_ b k) := by
  obtain ⟨rfl, h1, h2⟩ := h
  unfold some_
  cases b
  · simp only [Bool.false_eq_true, if_false]; exact ⟨rfl, by omega, by omega⟩
  · simp only [if_true]; exact ⟨rfl, by omega, by omega⟩



def wtOf (a b c d e' : Bool) : Int := some_ a 128 + some_ c 64 + some_ d 32 + some_ b 16 + some_ e' 8
theorem wt_of (x : Int) : wt x = wtOf (fb x 0) (fb x 1) (fb x 2) (fb x 3) (fb x 4) := wt_eq x

end Go.Proofs.YtgndjonalhdhkaaDoor

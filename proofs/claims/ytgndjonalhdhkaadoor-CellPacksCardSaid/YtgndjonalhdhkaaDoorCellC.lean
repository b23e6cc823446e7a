/-
  Slices of cells: what it is to read as a list of cells.
-/
import Derived.Test.YtgndjonalhdhkaaDoorCellB
namespace Go.Proofs.YtgndjonalhdhkaaDoor

open Go.RowKit

/-- The checksum, from s on. -/
def sumC (s : Int) (l : List Cl) : Int := l.foldl (fun s c => (s + c.w) % 65536) s
theorem sumC_snoc (s : Int) (l : List Cl) (k : Nat) (hk : k < l.length) : sumC s (l.take (k + 1)) = (sumC s (l.take k) + l[k].w) % 65536 := foldl_snoc _ s l k hk
theorem sumC_range (l : List Cl) : ∀ {s : Int}, 0 ≤ s → s < 65536 → 0 ≤ sumC s l ∧ sumC s l < 65536 := by
  induction l with
  | nil => exact fun a b => ⟨a, b⟩
  | cons c l ih => intro s _ _; exact ih (s := (s + c.w) % 65536) (by omega) (by omega)


end Go.Proofs.YtgndjonalhdhkaaDoor

/-
  A world for the witness, where the row lists no table.
-/
import Derived.Test.YthmodjnbpmigcaaFrameG
namespace Go.Proofs.Ythmodjnbpmigcaa
open Go.RowKit Go.ChangeShapes Go.WideShapes

/-- A world for the witness: the settled one. -/
noncomputable def laidWorld (os : Os) : World := World.holding Try.prog os ⟨#[], #[], []⟩
end Go.Proofs.Ythmodjnbpmigcaa

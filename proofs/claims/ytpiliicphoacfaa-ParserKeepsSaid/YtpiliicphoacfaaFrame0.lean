/-
  A world for the witness, where the row lists no table.
-/
import Derived.Test.YtpiliicphoacfaaFrameG
namespace Go.Proofs.Ytpiliicphoacfaa

open Go.RowKit Go.ChangeShapes Go.WideShapes

/-- A world for the witness: the settled one. -/
noncomputable def laidWorld (os : Os) : World := World.holding Try.prog os ⟨#[], #[], []⟩
end Go.Proofs.Ytpiliicphoacfaa

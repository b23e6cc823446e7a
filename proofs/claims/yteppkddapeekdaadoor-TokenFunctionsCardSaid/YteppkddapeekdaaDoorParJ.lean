/-
  The walks of numbers that are asked for.
-/
import Derived.Test.YteppkddapeekdaaDoorClip
namespace Go.Proofs.YteppkddapeekdaaDoor

open Go.RowKit



end Go.Proofs.YteppkddapeekdaaDoor

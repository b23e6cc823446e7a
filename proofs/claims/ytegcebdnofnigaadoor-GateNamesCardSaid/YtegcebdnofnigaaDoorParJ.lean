/-
  The walks of numbers that are asked for.
-/
import Derived.Test.YtegcebdnofnigaaDoorClip
namespace Go.Proofs.YtegcebdnofnigaaDoor

open Go.RowKit



end Go.Proofs.YtegcebdnofnigaaDoor

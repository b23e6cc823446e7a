/-
  Two lists of ints held against each other.
-/
import Derived.Test.YtegcebdnofnigaaDoorGen
namespace Go.Proofs.YtegcebdnofnigaaDoor

open Go.RowKit


end Go.Proofs.YtegcebdnofnigaaDoor

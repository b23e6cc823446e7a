/-
  Tokens: are two alike, for the reference?
-/
import Derived.Test.YtegcebdnofnigaaDoorTokC
import Derived.Test.YtegcebdnofnigaaDoorSame
import Derived.Deep.DeepCutAuto
namespace Go.Proofs.YtegcebdnofnigaaDoor

open Go Go.RowKit



end Go.Proofs.YtegcebdnofnigaaDoor

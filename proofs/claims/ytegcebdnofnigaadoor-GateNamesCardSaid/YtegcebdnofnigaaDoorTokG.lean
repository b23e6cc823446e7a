/-
  Tokens: can it be?
-/
import Derived.Test.YtegcebdnofnigaaDoorTokF
namespace Go.Proofs.YtegcebdnofnigaaDoor

open Go Go.RowKit

def checkP (k : Int) (c m : Nat) (ps : List Int) (s : ByteArray) (dt : List Nat) : Int :=
  if k < 1 ∨ 9 < k then 1
  else if smallB ps s dt = false then 2
  else if (pureB k c m ps s dt && (codedB k c s && writtenB m s dt)) = false then 3
  else 0

end Go.Proofs.YtegcebdnofnigaaDoor

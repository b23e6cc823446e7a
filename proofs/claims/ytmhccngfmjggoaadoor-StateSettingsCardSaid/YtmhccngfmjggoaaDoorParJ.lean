/-
  The walks of numbers that are asked for.
-/
import Derived.Test.YtmhccngfmjggoaaDoorClip
namespace Go.Proofs.YtmhccngfmjggoaaDoor

open Go.RowKit



end Go.Proofs.YtmhccngfmjggoaaDoor

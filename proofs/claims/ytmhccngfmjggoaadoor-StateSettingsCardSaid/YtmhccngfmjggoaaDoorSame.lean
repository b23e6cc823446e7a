/-
  Two lists of ints held against each other.
-/
import Derived.Test.YtmhccngfmjggoaaDoorGen
namespace Go.Proofs.YtmhccngfmjggoaaDoor

open Go.RowKit


end Go.Proofs.YtmhccngfmjggoaaDoor

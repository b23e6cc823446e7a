/-
  Two lists of ints held against each other.
-/
import Derived.Test.YtmhccngfmjggoaaGreatDoorGen
namespace Go.Proofs.YtmhccngfmjggoaaGreatDoor

open Go.RowKit


end Go.Proofs.YtmhccngfmjggoaaGreatDoor

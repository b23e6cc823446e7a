/-
  Two lists of ints held against each other.
-/
import Derived.Test.YtojdfooocadhoaaGreatDoorGen
namespace Go.Proofs.YtojdfooocadhoaaGreatDoor

open Go.RowKit


end Go.Proofs.YtojdfooocadhoaaGreatDoor

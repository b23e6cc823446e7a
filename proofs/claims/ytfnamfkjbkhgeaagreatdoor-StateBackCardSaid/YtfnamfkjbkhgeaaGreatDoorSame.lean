/-
  Two lists of ints held against each other.
-/
import Derived.Test.YtfnamfkjbkhgeaaGreatDoorGen
namespace Go.Proofs.YtfnamfkjbkhgeaaGreatDoor

open Go.RowKit


end Go.Proofs.YtfnamfkjbkhgeaaGreatDoor

/-
  Two lists of ints held against each other.
-/
import Derived.Test.YtlhabooeeohniaaGreatDoorGen
namespace Go.Proofs.YtlhabooeeohniaaGreatDoor

open Go.RowKit


end Go.Proofs.YtlhabooeeohniaaGreatDoor

/-
  Two lists of ints held against each other.
-/
import Derived.Test.YtnbbepkkedhhgaaGreatDoorGen
namespace Go.Proofs.YtnbbepkkedhhgaaGreatDoor

open Go.RowKit


end Go.Proofs.YtnbbepkkedhhgaaGreatDoor

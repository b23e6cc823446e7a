/-
  The walk of the reference that reads a text of numbers: no bytes; a byte that may not be.
-/
import Derived.Test.YtnbbepkkedhhgaaGreatDoorParH
namespace Go.Proofs.YtnbbepkkedhhgaaGreatDoor

open Go.RowKit




end Go.Proofs.YtnbbepkkedhhgaaGreatDoor

/-
  Cursors: put to a place, brought to a box, within a width; numbers of a move; pages and margins.
-/
import Derived.Test.YtojdfooocadhoaaGreatDoorCurB
namespace Go.Proofs.YtojdfooocadhoaaGreatDoor

open Go Go.RowKit



end Go.Proofs.YtojdfooocadhoaaGreatDoor

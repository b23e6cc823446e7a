/-
  Cursors: put to a place, brought to a box, within a width; numbers of a move; pages and margins.
-/
import Derived.Test.YtfnamfkjbkhgeaaGreatDoorCurB
namespace Go.Proofs.YtfnamfkjbkhgeaaGreatDoor

open Go Go.RowKit



end Go.Proofs.YtfnamfkjbkhgeaaGreatDoor

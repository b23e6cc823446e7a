/-
  The walks of numbers that are asked for.
-/
import Derived.Test.YtfnamfkjbkhgeaaGreatDoorClip
namespace Go.Proofs.YtfnamfkjbkhgeaaGreatDoor

open Go.RowKit



end Go.Proofs.YtfnamfkjbkhgeaaGreatDoor

/-
  The walks of numbers that are asked for.
-/
import Derived.Test.YtmhccngfmjggoaaGreatDoorClip
namespace Go.Proofs.YtmhccngfmjggoaaGreatDoor

open Go.RowKit



end Go.Proofs.YtmhccngfmjggoaaGreatDoor

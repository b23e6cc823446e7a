/-
  The walks of numbers that are asked for.
-/
import Derived.Test.YtojdfooocadhoaaGreatDoorClip
namespace Go.Proofs.YtojdfooocadhoaaGreatDoor

open Go.RowKit



end Go.Proofs.YtojdfooocadhoaaGreatDoor

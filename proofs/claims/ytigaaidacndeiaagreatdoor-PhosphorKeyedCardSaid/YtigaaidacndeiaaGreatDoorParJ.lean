/-
  The walks of numbers that are asked for.
-/
import Derived.Test.YtigaaidacndeiaaGreatDoorClip
namespace Go.Proofs.YtigaaidacndeiaaGreatDoor

open Go.RowKit



end Go.Proofs.YtigaaidacndeiaaGreatDoor

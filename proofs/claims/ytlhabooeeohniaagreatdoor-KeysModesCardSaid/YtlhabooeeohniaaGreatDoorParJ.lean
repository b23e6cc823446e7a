/-
  The walks of numbers that are asked for.
-/
import Derived.Test.YtlhabooeeohniaaGreatDoorClip
namespace Go.Proofs.YtlhabooeeohniaaGreatDoor

open Go.RowKit



end Go.Proofs.YtlhabooeeohniaaGreatDoor

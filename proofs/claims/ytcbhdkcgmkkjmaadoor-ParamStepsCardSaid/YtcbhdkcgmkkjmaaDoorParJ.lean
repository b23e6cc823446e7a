/-
  The walks of numbers that are asked for.
-/
import Derived.Test.YtcbhdkcgmkkjmaaDoorClip
namespace Go.Proofs.YtcbhdkcgmkkjmaaDoor

open Go.RowKit



end Go.Proofs.YtcbhdkcgmkkjmaaDoor

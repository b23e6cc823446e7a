/-
  The walks of numbers that are asked for.
-/
import Derived.Test.YtlhabooeeohniaaDoorClip
namespace Go.Proofs.YtlhabooeeohniaaDoor

open Go.RowKit



end Go.Proofs.YtlhabooeeohniaaDoor

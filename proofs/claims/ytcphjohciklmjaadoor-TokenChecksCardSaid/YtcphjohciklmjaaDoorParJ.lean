/-
  The walks of numbers that are asked for.
-/
import Derived.Test.YtcphjohciklmjaaDoorClip
namespace Go.Proofs.YtcphjohciklmjaaDoor

open Go.RowKit



end Go.Proofs.YtcphjohciklmjaaDoor

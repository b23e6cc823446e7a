/-
  The walks of numbers that are asked for.
-/
import Derived.Test.YtjljhnahofkmaaaDoorClip
namespace Go.Proofs.YtjljhnahofkmaaaDoor

open Go.RowKit



end Go.Proofs.YtjljhnahofkmaaaDoor

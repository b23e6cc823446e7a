/-
  Two lists of ints held against each other.
-/
import Derived.Test.YtjljhnahofkmaaaDoorGen
namespace Go.Proofs.YtjljhnahofkmaaaDoor

open Go.RowKit


end Go.Proofs.YtjljhnahofkmaaaDoor

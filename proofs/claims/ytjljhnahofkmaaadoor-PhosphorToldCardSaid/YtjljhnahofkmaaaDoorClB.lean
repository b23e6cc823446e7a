/-
  Two rows of cells held against each other.
-/
import Derived.Test.YtjljhnahofkmaaaDoorCl
import Derived.Test.YtjljhnahofkmaaaDoorCuts
namespace Go.Proofs.YtjljhnahofkmaaaDoor

open Go.RowKit


end Go.Proofs.YtjljhnahofkmaaaDoor

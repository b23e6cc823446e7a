/-
  The walks that hold two lines against each other.
-/
import Derived.Test.YtbndnaohjloanaaDoorLineG
namespace Go.Proofs.YtbndnaohjloanaaDoor

open Go.RowKit




end Go.Proofs.YtbndnaohjloanaaDoor

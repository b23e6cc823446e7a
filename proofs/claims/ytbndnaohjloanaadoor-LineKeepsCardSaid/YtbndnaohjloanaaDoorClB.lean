/-
  Two rows of cells held against each other.
-/
import Derived.Test.YtbndnaohjloanaaDoorCl
import Derived.Test.YtbndnaohjloanaaDoorCuts
namespace Go.Proofs.YtbndnaohjloanaaDoor

open Go.RowKit


end Go.Proofs.YtbndnaohjloanaaDoor

/-
  The walk that makes a line of its own of an argument.
-/
import Derived.Test.YtbndnaohjloanaaDoorLineJ
namespace Go.Proofs.YtbndnaohjloanaaDoor

open Go.RowKit


end Go.Proofs.YtbndnaohjloanaaDoor

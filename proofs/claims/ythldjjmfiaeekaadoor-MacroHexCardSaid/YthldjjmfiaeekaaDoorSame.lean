/-
  Two lists of ints held against each other.
-/
import Derived.Test.YthldjjmfiaeekaaDoorGen
namespace Go.Proofs.YthldjjmfiaeekaaDoor

open Go.RowKit


end Go.Proofs.YthldjjmfiaeekaaDoor

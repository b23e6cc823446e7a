/-
  The walk of the reference that reads a text of numbers: no bytes; a byte that may not be.
-/
import Derived.Test.YthldjjmfiaeekaaDoorParH
namespace Go.Proofs.YthldjjmfiaeekaaDoor

open Go.RowKit




end Go.Proofs.YthldjjmfiaeekaaDoor

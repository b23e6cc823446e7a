/-
  The walk of the reference that reads a text of numbers: no bytes; a byte that may not be.
-/
import Derived.Test.YtlhabooeeohniaaDoorParH
namespace Go.Proofs.YtlhabooeeohniaaDoor

open Go.RowKit




end Go.Proofs.YtlhabooeeohniaaDoor

/-
  The walk of the reference that reads a text of numbers: no bytes; a byte that may not be.
-/
import Derived.Test.YtmcidadpdhhikaaDoorParH
namespace Go.Proofs.YtmcidadpdhhikaaDoor

open Go.RowKit




end Go.Proofs.YtmcidadpdhhikaaDoor

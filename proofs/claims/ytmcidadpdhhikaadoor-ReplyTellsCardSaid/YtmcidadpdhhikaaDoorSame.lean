/-
  Two lists of ints held against each other.
-/
import Derived.Test.YtmcidadpdhhikaaDoorGen
namespace Go.Proofs.YtmcidadpdhhikaaDoor

open Go.RowKit


end Go.Proofs.YtmcidadpdhhikaaDoor

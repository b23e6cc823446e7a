/-
  The walks of numbers that are asked for.
-/
import Derived.Test.YtmcidadpdhhikaaDoorClip
namespace Go.Proofs.YtmcidadpdhhikaaDoor

open Go.RowKit



end Go.Proofs.YtmcidadpdhhikaaDoor

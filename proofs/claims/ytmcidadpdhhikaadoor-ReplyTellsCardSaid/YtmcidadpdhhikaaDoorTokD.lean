/-
  Tokens: are two alike, for the reference?
-/
import Derived.Test.YtmcidadpdhhikaaDoorTokC
import Derived.Test.YtmcidadpdhhikaaDoorSame
import Derived.Deep.DeepCutAuto
namespace Go.Proofs.YtmcidadpdhhikaaDoor

open Go Go.RowKit



end Go.Proofs.YtmcidadpdhhikaaDoor

/-
  Tokens: are two alike, for the reference?
-/
import Derived.Test.YthldjjmfiaeekaaDoorTokC
import Derived.Test.YthldjjmfiaeekaaDoorSame
import Derived.Deep.DeepCutAuto
namespace Go.Proofs.YthldjjmfiaeekaaDoor

open Go Go.RowKit



end Go.Proofs.YthldjjmfiaeekaaDoor

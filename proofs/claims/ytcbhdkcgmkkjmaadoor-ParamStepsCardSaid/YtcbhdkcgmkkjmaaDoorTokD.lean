/-
  Tokens: are two alike, for the reference?
-/
import Derived.Test.YtcbhdkcgmkkjmaaDoorTokC
import Derived.Test.YtcbhdkcgmkkjmaaDoorSame
import Derived.Deep.DeepCutAuto
namespace Go.Proofs.YtcbhdkcgmkkjmaaDoor

open Go Go.RowKit



end Go.Proofs.YtcbhdkcgmkkjmaaDoor

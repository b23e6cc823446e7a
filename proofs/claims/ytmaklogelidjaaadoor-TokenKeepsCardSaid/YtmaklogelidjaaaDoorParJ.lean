/-
  The walks of numbers that are asked for.
-/
import Derived.Test.YtmaklogelidjaaaDoorClip
namespace Go.Proofs.YtmaklogelidjaaaDoor

open Go.RowKit



end Go.Proofs.YtmaklogelidjaaaDoor

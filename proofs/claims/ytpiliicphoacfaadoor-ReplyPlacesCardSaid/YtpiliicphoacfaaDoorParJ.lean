/-
  The walks of numbers that are asked for.
-/
import Derived.Test.YtpiliicphoacfaaDoorClip
namespace Go.Proofs.YtpiliicphoacfaaDoor

open Go.RowKit



end Go.Proofs.YtpiliicphoacfaaDoor

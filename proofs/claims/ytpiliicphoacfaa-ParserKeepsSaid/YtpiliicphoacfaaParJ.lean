/-
  The walks of numbers that are asked for.
-/
import Derived.Test.YtpiliicphoacfaaClip
namespace Go.Proofs.Ytpiliicphoacfaa

open Go.RowKit



end Go.Proofs.Ytpiliicphoacfaa

/-
  The walks of numbers that are asked for.
-/
import Derived.Test.YtdmiihmaijbkfaaClip
namespace Go.Proofs.Ytdmiihmaijbkfaa

open Go.RowKit



end Go.Proofs.Ytdmiihmaijbkfaa

/-
  The walks of numbers that are asked for.
-/
import Derived.Test.YtmhmdbhmkpfdcaaDoorClip
namespace Go.Proofs.YtmhmdbhmkpfdcaaDoor

open Go.RowKit



end Go.Proofs.YtmhmdbhmkpfdcaaDoor

/-
  Cursors: put to a place, brought to a box, within a width; numbers of a move; pages and margins.
-/
import Derived.Test.YtmhccngfmjggoaaDoorCurB
namespace Go.Proofs.YtmhccngfmjggoaaDoor

open Go Go.RowKit



end Go.Proofs.YtmhccngfmjggoaaDoor

/-
  Two lists of ints held against each other.
-/
import Derived.Test.YtnbbepkkedhhgaaDoorGen
namespace Go.Proofs.YtnbbepkkedhhgaaDoor

open Go.RowKit


end Go.Proofs.YtnbbepkkedhhgaaDoor

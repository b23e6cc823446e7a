/-
  The walk of the reference that reads a text of numbers: no bytes; a byte that may not be.
-/
import Derived.Test.YtnbbepkkedhhgaaDoorParH
namespace Go.Proofs.YtnbbepkkedhhgaaDoor

open Go.RowKit




end Go.Proofs.YtnbbepkkedhhgaaDoor

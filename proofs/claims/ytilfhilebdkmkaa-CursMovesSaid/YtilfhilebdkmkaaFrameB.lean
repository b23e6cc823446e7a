/-
  A slice of ints that came in, opened.
-/
import Derived.Test.YtilfhilebdkmkaaFrameG
import Derived.SizedLaws
namespace Go.Proofs.Ytilfhilebdkmkaa

open Go.RowKit Go.ChangeShapes Go.WideShapes

theorem cellsInt : Try.prog.cellsOf 3 = 1 := by kernel_rfl
theorem bytesInt : Try.prog.bytesOf 3 = 8 := by kernel_rfl

end Go.Proofs.Ytilfhilebdkmkaa

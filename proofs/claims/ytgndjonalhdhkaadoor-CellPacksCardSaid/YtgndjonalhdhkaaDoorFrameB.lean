/-
  A slice of ints that came in, opened.
-/
import Derived.Test.YtgndjonalhdhkaaDoorFrameG
import Derived.SizedLaws
namespace Go.Proofs.YtgndjonalhdhkaaDoor

open Go.RowKit Go.ChangeShapes Go.WideShapes

theorem cellsInt : Tryd.prog.cellsOf 3 = 1 := by kernel_rfl
theorem bytesInt : Tryd.prog.bytesOf 3 = 8 := by kernel_rfl

end Go.Proofs.YtgndjonalhdhkaaDoor

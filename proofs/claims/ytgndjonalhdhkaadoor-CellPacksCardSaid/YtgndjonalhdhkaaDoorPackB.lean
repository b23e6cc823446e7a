/-
  Two rows of cells held against each other.
-/
import Derived.Test.YtgndjonalhdhkaaDoorCellF
import Derived.Test.YtgndjonalhdhkaaDoorClB

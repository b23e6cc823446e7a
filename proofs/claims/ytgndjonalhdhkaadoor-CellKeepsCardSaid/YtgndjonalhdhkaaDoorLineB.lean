/-
  The walks of lines: how many of a span are meant; a span of a line.
-/
import Derived.Test.YtgndjonalhdhkaaDoorLineA
import Derived.RegionTactic
namespace Go.Proofs.YtgndjonalhdhkaaDoor

open Go.RowKit

/-- How many of n a count means. -/
def cntP (n : Nat) (k : Int) : Nat := min k.toNat n

/-- A span's first column, and the one behind its last. -/
def loP (f : Int) : Nat := f.toNat
def hiP (n : Nat) (t : Int) : Nat := min t.toNat n


end Go.Proofs.YtgndjonalhdhkaaDoor

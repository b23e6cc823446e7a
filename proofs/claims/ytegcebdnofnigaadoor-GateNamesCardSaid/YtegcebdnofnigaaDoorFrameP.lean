/-
  The library's tables: what the row's list gives, and a world that holds them.
-/
import Derived.Test.YtegcebdnofnigaaDoorFrameB
import Derived.Test.YtegcebdnofnigaaDoorParK
import Derived.LaidSub
namespace Go.Proofs.YtegcebdnofnigaaDoor

open Go.RowKit Go.ChangeShapes Go.WideShapes

abbrev laids : List (String × DataW Unit) := [("math/bits.deBruijn32tab", Rows.laid_math_bits_deBruijn32tab), ("math/bits.deBruijn64tab", Rows.laid_math_bits_deBruijn64tab), ("internal/strconv.uint64pow10", Rows.laid_internal_strconv_uint64pow10)]
theorem gTen : Tryd.prog.globalNamed "internal/strconv.uint64pow10" = some 0 := by kernel_rfl
theorem tTen : (Tryd.prog.globals[0]?).map (·.type) = some 75 := by kernel_rfl
theorem cellsU64 : Tryd.prog.cellsOf 65 = 1 := by kernel_rfl
theorem cellsTen : Tryd.prog.cellsOf 75 = 20 := by kernel_rfl
theorem ten_of {W : World} (h : laidMetH Tryd.prog laids W) : Ten W := by
  rw [MakeChecks.laidMetH_plain _ _ _ (by kernel_rfl)] at h
  have h2 := h.filter (fun x => x.1 == "internal/strconv.uint64pow10")
  rw [show laids.filter (fun x => x.1 == "internal/strconv.uint64pow10") = [("internal/strconv.uint64pow10", Lib.tabData .u64 Lib.pow10Tab)] from by kernel_rfl] at h2
  exact Lib.tabIs_of_head gTen tTen Tryd.underlying75 Tryd.underlying65 cellsU64 cellsTen h2
/-- The cells of a table as the row lists it. -/
def cellsLaid : DataW Unit → Array Value
  | .agg xs => (xs.map fun | .lit (.int k n) => .int k n | _ => .int .u8 0).toArray
  | _ => #[]
def lay (g : Nat) (d : DataW Unit) (h : Array Obj) : Array Obj := h.modify g fun
  | .cells _ t frozen => .cells (cellsLaid d) t frozen
  | o => o
/-- A world for the witness: the settled one, each table holding what its initialiser lays. -/
noncomputable def laidWorld (os : Os) : World :=
  { World.holding Tryd.prog os ⟨#[], #[], []⟩ with heap := lay 2 Rows.laid_math_bits_deBruijn32tab (lay 3 Rows.laid_math_bits_deBruijn64tab (lay 0 Rows.laid_internal_strconv_uint64pow10 (World.holding Tryd.prog os ⟨#[], #[], []⟩).heap)) }
end Go.Proofs.YtegcebdnofnigaaDoor

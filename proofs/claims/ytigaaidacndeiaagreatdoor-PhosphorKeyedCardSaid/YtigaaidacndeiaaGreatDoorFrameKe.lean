/-
  The library's tables and the keys' numbers: what the row's list gives, and a world that holds them.
-/
import Derived.Test.YtigaaidacndeiaaGreatDoorFrameP
import Derived.LaidSub
import Derived.LaidLaws
import Derived.Stop.ErrReads
import Derived.Deep.DeepLaidRun
import Derived.Lib.LaidTab
import Derived.Test.YtigaaidacndeiaaGreatDoorKeyG
namespace Go.Proofs.YtigaaidacndeiaaGreatDoor
open Go Go.RowKit Go.ChangeShapes Go.WideShapes

abbrev laidE : List (String × DataW Unit) := [("math/bits.deBruijn32tab", Rows.laid_math_bits_deBruijn32tab), ("math/bits.deBruijn64tab", Rows.laid_math_bits_deBruijn64tab), ("internal/strconv.uint64pow10", Rows.laid_internal_strconv_uint64pow10), ("phosphor/udk.numbers", Rows.laid_phosphor_udk_numbers), ("phosphor/keys.numbers", Rows.laid_phosphor_keys_numbers)]
def numsZ : List Int := [17, 18, 19, 20, 21, 23, 24, 25, 26, 28, 29, 31, 32, 33, 34]
theorem numsZ_at : ∀ j, j < 15 → numsZ.getD j 0 = nthU j := by decide
theorem cellsIntU : Tryz.prog.cellsOf 3 = 1 := by kernel_rfl
theorem cellsNumsU : Tryz.prog.cellsOf 73 = 15 := by kernel_rfl
theorem gnumU : Tryz.prog.globalNamed "phosphor/udk.numbers" = some 1 := by kernel_rfl
theorem tnumU : (Tryz.prog.globals[1]?).map (·.type) = some 73 := by kernel_rfl
set_option maxRecDepth 100000 in
theorem numU_of {W : World} (h : laidMetH Tryz.prog laidE W) : Nums W := by
  rw [MakeChecks.laidMetH_plain _ _ _ (by kernel_rfl)] at h
  have h2 := h.filter (fun x => x.1 == "phosphor/udk.numbers")
  rw [show laidE.filter (fun x => x.1 == "phosphor/udk.numbers") = [("phosphor/udk.numbers", Lib.tabData .i64 numsZ)] from by kernel_rfl] at h2
  have h3 := Lib.tabIs_of_head gnumU tnumU Tryz.underlying73 Tryz.underlying3 cellsIntU cellsNumsU h2
  have hc : ∀ i, i < 15 → W.cell? ⟨1, i, none⟩ = some (.int .i64 (numsZ.getD i 0)) := fun i hi => h3.cell gnumU i hi
  refine ⟨?_, fun j v hj => ?_⟩
  · rcases Nat.lt_or_ge 1 W.heap.size with h0 | h0
    · exact h0
    · exfalso
      have h4 := hc 0 (by omega)
      have : W.heap[1]? = none := Array.getElem?_eq_none h0
      simp [World.cell?, this] at h4
  · have hj15 : j < 15 := by
      rcases Nat.lt_or_ge j 15 with h0 | h0
      · exact h0
      · rw [List.getElem?_eq_none (by simp [numCells]; omega)] at hj; cases hj
    rw [hc j hj15]
    have e : numCells[j]? = some (.int .i64 (nthU j)) := by unfold numCells; simp [hj15]
    rw [e] at hj
    injection hj with hj
    rw [← hj, numsZ_at j hj15]
theorem gnumK : Tryz.prog.globalNamed "phosphor/keys.numbers" = some 0 := by kernel_rfl
theorem tnumK : (Tryz.prog.globals[0]?).map (·.type) = some 73 := by kernel_rfl
set_option maxRecDepth 100000 in
theorem numK_of {W : World} (h : laidMetH Tryz.prog laidE W) : KNums W := by
  rw [MakeChecks.laidMetH_plain _ _ _ (by kernel_rfl)] at h
  have h2 := h.filter (fun x => x.1 == "phosphor/keys.numbers")
  rw [show laidE.filter (fun x => x.1 == "phosphor/keys.numbers") = [("phosphor/keys.numbers", Lib.tabData .i64 numsZ)] from by kernel_rfl] at h2
  have h3 := Lib.tabIs_of_head gnumK tnumK Tryz.underlying73 Tryz.underlying3 cellsIntU cellsNumsU h2
  have hc : ∀ i, i < 15 → W.cell? ⟨0, i, none⟩ = some (.int .i64 (numsZ.getD i 0)) := fun i hi => h3.cell gnumK i hi
  refine ⟨?_, fun j v hj => ?_⟩
  · rcases Nat.lt_or_ge 0 W.heap.size with h0 | h0
    · exact h0
    · exfalso
      have h4 := hc 0 (by omega)
      have : W.heap[0]? = none := Array.getElem?_eq_none h0
      simp [World.cell?, this] at h4
  · have hj15 : j < 15 := by
      rcases Nat.lt_or_ge j 15 with h0 | h0
      · exact h0
      · rw [List.getElem?_eq_none (by simp [numCells]; omega)] at hj; cases hj
    rw [hc j hj15]
    have e : numCells[j]? = some (.int .i64 (nthU j)) := by unfold numCells; simp [hj15]
    rw [e] at hj
    injection hj with hj
    rw [← hj, numsZ_at j hj15]
theorem tenE_of {W : World} (h : laidMetH Tryz.prog laidE W) : Ten W := by
  rw [MakeChecks.laidMetH_plain _ _ _ (by kernel_rfl)] at h
  have h2 := h.filter (fun x => x.1 == "internal/strconv.uint64pow10")
  rw [show laidE.filter (fun x => x.1 == "internal/strconv.uint64pow10") = [("internal/strconv.uint64pow10", Lib.tabData .u64 Lib.pow10Tab)] from by kernel_rfl] at h2
  exact Lib.tabIs_of_head gTen tTen Tryz.underlying144 Tryz.underlying136 cellsU64 cellsTen h2
theorem envE {W : World} (h : laidMetH Tryz.prog laidE W) : KEnv W := ⟨⟨trivial, trivial, numU_of h⟩, numK_of h, tenE_of h⟩
/-- A world for the witness. -/
noncomputable def laidWorldE (os : Os) : World :=
  { laidWorld os with heap := lay 1 Rows.laid_phosphor_udk_numbers (lay 0 Rows.laid_phosphor_keys_numbers (laidWorld os).heap) }
end Go.Proofs.YtigaaidacndeiaaGreatDoor

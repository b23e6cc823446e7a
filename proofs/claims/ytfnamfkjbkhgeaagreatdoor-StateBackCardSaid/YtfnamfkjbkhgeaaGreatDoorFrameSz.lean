/-
  Ten laid variables of the cursor's report: what the row's list gives, and a world that holds them all.
-/
import Derived.Test.YtfnamfkjbkhgeaaGreatDoorFrameS
import Derived.Test.YtfnamfkjbkhgeaaGreatDoorChsN
import Derived.Lib.LaidU8
import Derived.Deep.DeepLaidRun
import Derived.Deep.DeepWitnessRowRef
namespace Go.Proofs.YtfnamfkjbkhgeaaGreatDoor
open Go.RowKit Go.ChangeShapes Go.WideShapes Go.Deep

abbrev laidSz : List (String × DataW Unit) := [("math/bits.deBruijn32tab", Rows.laid_math_bits_deBruijn32tab), ("math/bits.deBruijn64tab", Rows.laid_math_bits_deBruijn64tab), ("internal/strconv.uint64pow10", Rows.laid_internal_strconv_uint64pow10), ("phosphor/mode.table", Rows.laid_phosphor_mode_table), ("phosphor/rend.parts", Rows.laid_phosphor_rend_parts), ("unicode/utf8.acceptRanges", Rows.laid_unicode_utf8_acceptRanges), ("unicode.White_Space", Rows.laid_unicode_White_Space), ("strings.asciiSpace", Rows.laid_strings_asciiSpace), ("phosphor/charset.faces", Rows.laid_phosphor_charset_faces), ("unicode/utf8.first", Rows.laid_unicode_utf8_first)]
theorem tabSz {W : World} (h : laidMetH Tryz.prog laidSz W) : Tab W := by
  rw [MakeChecks.laidMetH_plain _ _ _ (by kernel_rfl)] at h
  have h2 := h.filter (fun x => x.1 == "phosphor/rend.parts")
  rw [show laidSz.filter (fun x => x.1 == "phosphor/rend.parts") = [("phosphor/rend.parts", Rows.laid_phosphor_rend_parts)] from by kernel_rfl] at h2
  exact tab_of (by rw [MakeChecks.laidMetH_plain _ _ _ (by kernel_rfl)]; exact h2)
theorem tenSz {W : World} (h : laidMetH Tryz.prog laidSz W) : Ten W := by
  rw [MakeChecks.laidMetH_plain _ _ _ (by kernel_rfl)] at h
  have h2 := h.filter (fun x => x.1 == "internal/strconv.uint64pow10")
  rw [show laidSz.filter (fun x => x.1 == "internal/strconv.uint64pow10") = [("internal/strconv.uint64pow10", Lib.tabData .u64 Lib.pow10Tab)] from by kernel_rfl] at h2
  exact Lib.tabIs_of_head gTen tTen Tryz.underlying215 Tryz.underlying200 cellsU64 cellsTen h2
theorem modsSz {W : World} (h : laidMetH Tryz.prog laidSz W) : Mods W := by
  rw [MakeChecks.laidMetH_plain _ _ _ (by kernel_rfl)] at h
  exact mods_of (by kernel_rfl) h
theorem facesSz {W : World} (h : laidMetH Tryz.prog laidSz W) : Faces W := by
  rw [MakeChecks.laidMetH_plain _ _ _ (by kernel_rfl)] at h
  exact faces_of (by kernel_rfl) h
theorem gBlanks : Tryz.prog.globalNamed "strings.asciiSpace" = some 9 := by kernel_rfl
theorem tBlanks : (Tryz.prog.globals[9]?).map (·.type) = some 229 := by kernel_rfl
theorem cellsBlanks : Tryz.prog.cellsOf 229 = 256 := by kernel_rfl
theorem blanksSz {W : World} (h : laidMetH Tryz.prog laidSz W) : Blanks W := by
  rw [MakeChecks.laidMetH_plain _ _ _ (by kernel_rfl)] at h
  have h2 := h.filter (fun x => x.1 == "strings.asciiSpace")
  rw [show laidSz.filter (fun x => x.1 == "strings.asciiSpace") = [("strings.asciiSpace", Lib.tabData .u8 Lib.asciiSpaceTab)] from by kernel_rfl] at h2
  exact Lib.tabIs_of_head gBlanks tBlanks Tryz.underlying229 Tryz.underlying5 cellsU8 cellsBlanks h2
/-- A world for the witness: the settled one with two blocks more (the library's ranges of blanks), each variable holding what its initialiser lays. -/
noncomputable def laidWorldSz (os : Os) : World :=
  let N := (World.settled Tryz.prog os).heap.size
  let w0 := World.holding Tryz.prog os ⟨#[.cells (Lib.whiteT.map fun (z : Nat) => Value.int .u16 (z : Int)).toArray 255, .cells #[.slice (some ⟨N, 0, none⟩) 7 7, .slice none 0 0, .int .i64 2] 252], #[], []⟩
  let put (h : Array Obj) (g : Nat) (cs : Array Value) : Array Obj := h.modify g fun
    | .cells _ t frozen => .cells cs t frozen
    | o => o
  { w0 with heap := put (put (put (put (put (put (lay 7 Rows.laid_math_bits_deBruijn32tab (lay 8 Rows.laid_math_bits_deBruijn64tab (lay 3 Rows.laid_internal_strconv_uint64pow10 (lay 5 Rows.laid_unicode_utf8_first w0.heap)))) 0 tabCells.toArray) 1 modCells.toArray) 2 faceCells.toArray) 9 (Lib.asciiSpaceTab.map fun z => Value.int .u8 z).toArray) 6 (([128, 191, 160, 191, 128, 159, 144, 191, 128, 143] ++ List.replicate 22 0).map fun (z : Nat) => Value.int .u8 (z : Int)).toArray) 10 #[.pointer (some ⟨N + 1, 0, none⟩)] }
theorem laid_metSz (os : Os) (args : Array Value) : laidMet Tryz.prog laidSz ((laidWorldSz os).forCall (fun _ _ => 0) ⟨#[], args, []⟩).memory :=
  laidMet_of_run3 10 (by kernel_rfl) (by kernel_rfl) (by kernel_rfl)
end Go.Proofs.YtfnamfkjbkhgeaaGreatDoor

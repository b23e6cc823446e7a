/-
  The tables that the sets' ids lean on: what the row's list gives, and a world that holds them.
-/
import Derived.Test.YtandfpghjbbalaaDoorFrameV
import Derived.Test.YtandfpghjbbalaaDoorChsM
import Derived.Lib.LaidU8
import Derived.Deep.DeepLaidRun
import Derived.Deep.DeepWitnessRowRef
namespace Go.Proofs.YtandfpghjbbalaaDoor
open Go.RowKit Go.ChangeShapes Go.WideShapes

abbrev laidB : List (String × DataW Unit) := [("unicode.White_Space", Rows.laid_unicode_White_Space), ("strings.asciiSpace", Rows.laid_strings_asciiSpace), ("phosphor/charset.faces", Rows.laid_phosphor_charset_faces)]
theorem facesB {W : World} (h : laidMetH Tryd.prog laidB W) : Faces W := by
  rw [MakeChecks.laidMetH_plain _ _ _ (by kernel_rfl)] at h
  exact faces_of (by kernel_rfl) h
theorem gBlanks : Tryd.prog.globalNamed "strings.asciiSpace" = some 1 := by kernel_rfl
theorem tBlanks : (Tryd.prog.globals[1]?).map (·.type) = some 89 := by kernel_rfl
theorem cellsU8 : Tryd.prog.cellsOf 5 = 1 := by kernel_rfl
theorem cellsBlanks : Tryd.prog.cellsOf 89 = 256 := by kernel_rfl
theorem blanksB {W : World} (h : laidMetH Tryd.prog laidB W) : Blanks W := by
  rw [MakeChecks.laidMetH_plain _ _ _ (by kernel_rfl)] at h
  have h2 := h.filter (fun x => x.1 == "strings.asciiSpace")
  rw [show laidB.filter (fun x => x.1 == "strings.asciiSpace") = [("strings.asciiSpace", Lib.tabData .u8 Lib.asciiSpaceTab)] from by kernel_rfl] at h2
  exact Lib.tabIs_of_head gBlanks tBlanks Tryd.underlying89 Tryd.underlying5 cellsU8 cellsBlanks h2
/-- A world for the witness: the settled one with two blocks more (the library's ranges of blanks), the three variables holding what their initialisers lay. -/
noncomputable def laidWorldB (os : Os) : World :=
  let N := (World.settled Tryd.prog os).heap.size
  let w0 := World.holding Tryd.prog os ⟨#[.cells (Lib.whiteT.map fun (z : Nat) => Value.int .u16 (z : Int)).toArray 106, .cells #[.slice (some ⟨N, 0, none⟩) 7 7, .slice none 0 0, .int .i64 2] 103], #[], []⟩
  let put (h : Array Obj) (g : Nat) (cs : Array Value) : Array Obj := h.modify g fun
    | .cells _ t frozen => .cells cs t frozen
    | o => o
  { w0 with heap := put (put (put w0.heap 0 faceCells.toArray) 1 (Lib.asciiSpaceTab.map fun z => Value.int .u8 z).toArray) 3 #[.pointer (some ⟨N + 1, 0, none⟩)] }
theorem laid_metB (os : Os) (args : Array Value) : laidMet Tryd.prog laidB ((laidWorldB os).forCall (fun _ _ => 0) ⟨#[], args, []⟩).memory :=
  laidMet_of_run3 10 (by kernel_rfl) (by kernel_rfl) (by kernel_rfl)
end Go.Proofs.YtandfpghjbbalaaDoor

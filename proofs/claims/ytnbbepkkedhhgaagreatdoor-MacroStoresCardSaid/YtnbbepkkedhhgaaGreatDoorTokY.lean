/-
  Tokens, the document's own answers: their bytes.
-/
import Derived.Test.YtnbbepkkedhhgaaGreatDoorTokX
import Derived.Test.YtnbbepkkedhhgaaGreatDoorParP
namespace Go.Proofs.YtnbbepkkedhhgaaGreatDoor

open Go Go.RowKit

theorem str_world (W : World) (s : ByteArray) : Below W.heap.size W (Lib.bytesWorld W 5 s) ∧ RByt (Lib.bytesWorld W 5 s) (some ⟨W.heap.size, 0, none⟩) (natL s.data.toList) := by
  obtain ⟨u, w', hr, _, hF, hb⟩ := str_made W.heap.size s W (Nat.le_refl _)
  rw [Lib.run_convert_string_bytes W 9 59 5 s Tryz.underlying9 Tryz.underlying59 Tryz.underlying5] at hr
  injection hr with e1 e2
  subst e1 e2
  refine ⟨hb, by simp, fun hn => ⟨⟨W.heap.size, 0, none⟩, rfl, by rw [Lib.bytesWorld_size]; simp, fun j u hu => ?_⟩⟩
  refine str_cell hF j u ?_
  rw [strCells_nat]
  exact hu





theorem str_reads (W : World) (s : ByteArray) : Reads (Lib.bytesWorld W 5 s) (Lib.bytesWorld W 5 s).heap.size 1 (some ⟨W.heap.size, 0, none⟩) s.size ((natL s.data.toList).map fun (n : Nat) => Value.int .u8 (n : Int)) := by
  have h := (str_world W s).2
  unfold RByt at h
  rw [natL_len, dlen] at h
  exact h
theorem lit_reads (W : World) (n : Nat) : RByt (W.alloc (.cells #[.int .u8 (n : Int)] 5)) (some ⟨W.heap.size, 0, none⟩) [n] := Reads.of_own (World.ownsRow_lit (e := 5) (size := 1) W #[.int .u8 (n : Int)] 1 (Nat.le_refl _) (by unfold maxLen; omega) rfl)


end Go.Proofs.YtnbbepkkedhhgaaGreatDoor

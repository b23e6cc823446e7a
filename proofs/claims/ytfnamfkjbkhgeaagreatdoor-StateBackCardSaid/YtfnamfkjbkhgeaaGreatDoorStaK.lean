/-
  The numbers of a core, and their report, by the document.
-/
import Derived.Test.YtfnamfkjbkhgeaaGreatDoorStaH
namespace Go.Proofs.YtfnamfkjbkhgeaaGreatDoor

open Go Go.RowKit

theorem oneN_any (b : Bool) (V : World) : Calls Tryz.prog 31 #[.bool b] V fun e w' => e = .returned (.int .i64 (b.toNat : Int)) ∧ Below V.heap.size V w' :=
  (one_any b V).mono (by rintro e w'' ⟨rfl, rfl⟩; exact ⟨rfl, Below.refl _ _⟩)
theorem report_text (ns : List Int) (h : ns.length = 12) : fmtT ns 12 = joinT (ns.map itT) := by
  rw [fmtT_join ns 12 (by omega), List.take_of_length_le (by omega)]
  unfold joinT bytesOf
  rw [List.map_map]
  congr 3


end Go.Proofs.YtfnamfkjbkhgeaaGreatDoor

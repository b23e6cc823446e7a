/-
  States of sets: the reference's: which of the four count; what is invoked for once; the glyph of a code.
-/
import Derived.Test.YtfnamfkjbkhgeaaGreatDoorIsoD
import Derived.Test.YtfnamfkjbkhgeaaGreatDoorChsI
namespace Go.Proofs.YtfnamfkjbkhgeaaGreatDoor

open Go Go.RowKit

set_option maxHeartbeats 2000000 in
theorem used_any (x : Iso) (w : World) : Calls Tryz.prog 47 #[x.val] w fun e w' => e = .returned (.tuple #[.int .i64 (leftP x), .int .i64 (rightP x)]) ∧ Below w.heap.size w w' := by
  have HB := Lib.hid (show ∀ o, Below w.heap.size w (w.alloc o) from fun o => (Below.refl _ _).alloc (Nat.le_refl _) o)
  have hl : (decide (x.l < 0) = true ∧ leftP x = 0) ∨ (decide (x.l < 0) = false ∧ decide (3 < x.l) = true ∧ leftP x = 0) ∨ (decide (x.l < 0) = false ∧ decide (3 < x.l) = false ∧ leftP x = x.l) := by
    unfold leftP isoInB
    by_cases h1 : x.l < 0
    · exact .inl ⟨by simpa using h1, if_neg (by simp; omega)⟩
    · by_cases h2 : 3 < x.l
      · exact .inr (.inl ⟨by simpa using h1, by simpa using h2, if_neg (by simp; omega)⟩)
      · exact .inr (.inr ⟨by simpa using h1, by simpa using h2, if_pos (by simp; omega)⟩)
  have hr : (decide (x.r < 0) = true ∧ rightP x = 2) ∨ (decide (x.r < 0) = false ∧ decide (3 < x.r) = true ∧ rightP x = 2) ∨ (decide (x.r < 0) = false ∧ decide (3 < x.r) = false ∧ rightP x = x.r) := by
    unfold rightP isoInB
    by_cases h1 : x.r < 0
    · exact .inl ⟨by simpa using h1, if_neg (by simp; omega)⟩
    · by_cases h2 : 3 < x.r
      · exact .inr (.inl ⟨by simpa using h1, by simpa using h2, if_neg (by simp; omega)⟩)
      · exact .inr (.inr ⟨by simpa using h1, by simpa using h2, if_pos (by simp; omega)⟩)
  generalize leftP x = lp at *
  generalize rightP x = rp at *
  obtain ⟨a, b, c, d, l, r, s⟩ := x
  unfold Iso.val Iso.cs
  simp only at hl hr ⊢
  rcases hl with ⟨g1, rfl⟩ | ⟨g1, g2, rfl⟩ | ⟨g1, g2, rfl⟩ <;> rcases hr with ⟨g3, rfl⟩ | ⟨g3, g4, rfl⟩ | ⟨g3, g4, rfl⟩
  all_goals
    go_enter Tryz.func47, Tryz.ntmps47
    go_wp2_with fail
    go_ret2
    exact ⟨rfl, HB.out _⟩

end Go.Proofs.YtfnamfkjbkhgeaaGreatDoor

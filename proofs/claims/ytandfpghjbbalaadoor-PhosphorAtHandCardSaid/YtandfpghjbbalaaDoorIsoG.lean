/-
  States of sets: the reference's: which of the four count; what is invoked for once; the glyph of a code.
-/
import Derived.Test.YtandfpghjbbalaaDoorIsoC
import Derived.Test.YtandfpghjbbalaaDoorChsI
namespace Go.Proofs.YtandfpghjbbalaaDoor
open Go Go.RowKit

set_option maxHeartbeats 2000000 in
theorem used_any (x : Iso) (w : World) : Calls Tryd.prog 30 #[x.val] w fun e w' => e = .returned (.tuple #[.int .i64 (leftP x), .int .i64 (rightP x)]) ∧ Below w.heap.size w w' := by
  have HB := Lib.hid (show ∀ o, Below w.heap.size w (w.alloc o) from fun o => (Below.refl _ _).alloc (Nat.le_refl _) o)
  have hl : (decide (x.l < 0) = true ∧ leftP x = 0) ∨ (decide (x.l < 0) = false ∧ decide (3 < x.l) = true ∧ leftP x = 0) ∨ (decide (x.l < 0) = false ∧ decide (3 < x.l) = false ∧ leftP x = x.l) := by
    unfold leftP inB
    by_cases h1 : x.l < 0
    · exact .inl ⟨by simpa using h1, if_neg (by simp; omega)⟩
    · by_cases h2 : 3 < x.l
      · exact .inr (.inl ⟨by simpa using h1, by simpa using h2, if_neg (by simp; omega)⟩)
      · exact .inr (.inr ⟨by simpa using h1, by simpa using h2, if_pos (by simp; omega)⟩)
  have hr : (decide (x.r < 0) = true ∧ rightP x = 2) ∨ (decide (x.r < 0) = false ∧ decide (3 < x.r) = true ∧ rightP x = 2) ∨ (decide (x.r < 0) = false ∧ decide (3 < x.r) = false ∧ rightP x = x.r) := by
    unfold rightP inB
    by_cases h1 : x.r < 0
    · exact .inl ⟨by simpa using h1, if_neg (by simp; omega)⟩
    · by_cases h2 : 3 < x.r
      · exact .inr (.inl ⟨by simpa using h1, by simpa using h2, if_neg (by simp; omega)⟩)
      · exact .inr (.inr ⟨by simpa using h1, by simpa using h2, if_pos (by simp; omega)⟩)
  generalize leftP x = lp at *
  generalize rightP x = rp at *
  obtain ⟨a, b, c, d, l, r, s⟩ := x
  unfold Iso.val Iso.cs
  simp only at hl hr ⊢
  rcases hl with ⟨g1, rfl⟩ | ⟨g1, g2, rfl⟩ | ⟨g1, g2, rfl⟩ <;> rcases hr with ⟨g3, rfl⟩ | ⟨g3, g4, rfl⟩ | ⟨g3, g4, rfl⟩
  all_goals
    go_enter Tryd.func30, Tryd.ntmps30
    go_wp2_with fail
    go_ret2
    exact ⟨rfl, HB.out _⟩
set_option maxHeartbeats 2000000 in
theorem invoke_once (x : Iso) (g : Int) (h : g = 2 ∨ g = 3) (w : World) : Calls Tryd.prog 28 #[x.val, .int .i64 3, .int .i64 g] w fun e w' => e = .returned ({ x with s := g } : Iso).val ∧ Below w.heap.size w w' := by
  obtain ⟨a, b, c, d, l, r, s⟩ := x
  unfold Iso.val Iso.cs
  rcases h with rfl | rfl
  all_goals
    go_enter Tryd.func28, Tryd.ntmps28
    go_wp2_with fail
    exact bodyPost_ret (v := .agg #[.int .i64 a, .int .i64 b, .int .i64 c, .int .i64 d, .int .i64 l, .int .i64 r, .int .i64 _]) (by simp [results, Tryd.results28, go_sem]) rfl ⟨rfl, ((Below.refl _ _).alloc (Nat.le_refl _) _).alloc (by simp) _⟩
end Go.Proofs.YtandfpghjbbalaaDoor

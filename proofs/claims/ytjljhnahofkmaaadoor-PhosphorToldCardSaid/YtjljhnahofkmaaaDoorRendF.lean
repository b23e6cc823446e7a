/-
  The walk of the reference's turning over of a rendition, number by number.
-/
import Derived.Test.YtjljhnahofkmaaaDoorRendE
namespace Go.Proofs.YtjljhnahofkmaaaDoor

open Go.RowKit

theorem xor15_parts {y : Int} (h0 : 0 ≤ y) (h1 : y < 32) : fb (bits .xor .u8 y 15) 0 = !fb y 0 ∧ fb (bits .xor .u8 y 15) 1 = !fb y 1 ∧ fb (bits .xor .u8 y 15) 2 = !fb y 2 ∧ fb (bits .xor .u8 y 15) 3 = !fb y 3 ∧ fb (bits .xor .u8 y 15) 4 = fb y 4 := by
  have h := all_below (n := 32) (p := fun y => fb (bits .xor .u8 y 15) 0 == !fb y 0 && fb (bits .xor .u8 y 15) 1 == !fb y 1 && fb (bits .xor .u8 y 15) 2 == !fb y 2 && fb (bits .xor .u8 y 15) 3 == !fb y 3 && fb (bits .xor .u8 y 15) 4 == fb y 4) (by decide +kernel) h0 (by omega)
  simp only [Bool.and_eq_true, beq_iff_eq] at h
  exact ⟨h.1.1.1.1, h.1.1.1.2, h.1.1.2, h.1.2, h.2⟩
theorem turn_all {w : World} {g : Nat} {t : TypeId} {y : Int} (h : Blk w g t (cellsF y)) (h0 : 0 ≤ y) (h1 : y < 32) :
    Blk ((((w.setCell ⟨g, 0, none⟩ (.bool (!fb y 0))).setCell ⟨g, 1, none⟩ (.bool (!fb y 1))).setCell ⟨g, 2, none⟩ (.bool (!fb y 2))).setCell ⟨g, 3, none⟩ (.bool (!fb y 3))) g t (cellsF (fl1 y 0)) := by
  have e : cellsF (fl1 y 0) = #[.bool (!fb y 0), .bool (!fb y 1), .bool (!fb y 2), .bool (!fb y 3), .bool (fb y 4)] := by
    obtain ⟨a, b, c, d, f⟩ := xor15_parts h0 h1
    show cellsF (bits .xor .u8 y 15) = _
    unfold cellsF
    rw [a, b, c, d, f]
  rw [e]
  exact (((h.set_ 0 _).set_ 1 _).set_ 2 _).set_ 3 _
theorem turn_one {w : World} {g : Nat} {t : TypeId} {y : Int} (h : Blk w g t (cellsF y)) (h0 : 0 ≤ y) (h1 : y < 32) (k : Nat) (hk : k < 5) : Blk (w.setCell ⟨g, k, none⟩ (.bool (!fb y k))) g t (cellsF (fl1 y (pOn k))) := by
  unfold fl1
  rw [trn_on k hk, ← cellsF_xor h0 h1 k hk]; exact h.set_ k _
theorem fl1_none {y n : Int} (h0 : 0 ≤ y) (h1 : y < 32) (hn : n ≠ 0) (h : ∀ j, j < 5 → n ≠ pOn j) : fl1 y n = y := by
  unfold fl1
  rw [trn_none hn h]
  have h := all_below (n := 32) (p := fun y => bits .xor .u8 y 0 == y) (by decide +kernel) h0 (by omega)
  simpa using h
/-- The list that is gone through. -/
def turns (ns : List Int) : List Int := if ns = [] then [0] else ns
theorem flip_turns (x : Int) (ns : List Int) : flip x ns = (turns ns).foldl fl1 (x % 32) := by
  by_cases h : ns = []
  · subst h; rfl
  · simp [flip, turns, h]
theorem on_cases (n : Int) : n = 0 ∨ (∃ k, k < 5 ∧ n = pOn k) ∨ (n ≠ 0 ∧ ∀ j, j < 5 → n ≠ pOn j) := by
  by_cases h0 : n = 0
  · exact .inl h0
  by_cases h1 : ∃ k, k < 5 ∧ n = pOn k
  · exact .inr (.inl h1)
  · exact .inr (.inr ⟨h0, fun j hj e => h1 ⟨j, hj, e⟩⟩)


end Go.Proofs.YtjljhnahofkmaaaDoor

/-
  Boxes: the part of a side that numbers tell.
-/
import Derived.Test.YtilfhilebdkmkaaBoxB
namespace Go.Proofs.Ytilfhilebdkmkaa

open Go Go.RowKit

/-- Two boxes of the call's own, and that old memory is as it was. -/
def K2 (w : World) (T : TypeId) (x : Array Value) (U : TypeId) (y : Array Value) (W : World) : Prop := Blk W w.heap.size T x ∧ Blk W (w.heap.size + 1) U y ∧ Below w.heap.size w W
section

variable {w W W' : World} {T U : TypeId} {x y : Array Value}

theorem K2.start (w : World) (T U : TypeId) (x y : Array Value) : K2 w T x U y ((w.alloc (.cells x T)).alloc (.cells y U)) := new2 w T U x y
theorem K2.next (h : K2 w T x U y W) (hb : Below W.heap.size W W') : K2 w T x U y W' := ⟨h.1.next hb, h.2.1.next hb, h.2.2.trans (hb.mono h.2.2.size)⟩
theorem K2.alloc (h : K2 w T x U y W) (o : Obj) : K2 w T x U y (W.alloc o) := ⟨h.1.alloc o, h.2.1.alloc o, h.2.2.alloc h.2.2.size o⟩
theorem K2.drew (h : K2 w T x U y W) : K2 w T x U y W.drew := ⟨h.1, h.2.1, h.2.2.drew⟩
theorem K2.lt (h : K2 w T x U y W) : w.heap.size + 1 < W.heap.size := h.2.1.lt
/-- A store into the second box. -/
theorem K2.set2 {a b : Value} (h : K2 w T x U #[a, b] W) (u v : Value) : K2 w T x U #[u, v] ((W.setCell ⟨w.heap.size + 1, 0, none⟩ u).setCell ⟨w.heap.size + 1, 1, none⟩ v) :=
  ⟨Blk.far (Blk.far h.1 (by simp) _) (by simp) _, (h.2.1.set_ 0 u).set_ 1 v, (h.2.2.setCell (by simp) _).setCell (by simp) _⟩
end

def partT (f b first last : Int) : Int × Int × Bool :=
  if first < 0 ∨ last < 0 then (0, 0, false) else
  if cntP f b < max first 1 then (0, 0, false) else
  if (if last ≠ 0 ∧ last ≤ cntP f b then f + last else b) ≤ f + max first 1 - 1 then (0, 0, false) else
  (f + max first 1 - 1, (if last ≠ 0 ∧ last ≤ cntP f b then f + last else b), true)
theorem part_cases (f b first last : Int) :
    (first < 0 ∧ partT f b first last = (0, 0, false)) ∨ (0 ≤ first ∧ last < 0 ∧ partT f b first last = (0, 0, false)) ∨
    (0 ≤ first ∧ 0 ≤ last ∧ ∃ F, ((first < 1 ∧ F = 1) ∨ (1 ≤ first ∧ F = first)) ∧
      ((cntP f b < F ∧ partT f b first last = (0, 0, false)) ∨
       (F ≤ b - f ∧ f < b ∧ cntP f b = b - f ∧ ∃ y, ((last = 0 ∧ y = b) ∨ (b - f < last ∧ y = b) ∨ (1 ≤ last ∧ last ≤ b - f ∧ y = f + last)) ∧
        ((y ≤ f + F - 1 ∧ partT f b first last = (0, 0, false)) ∨ (f + F - 1 < y ∧ partT f b first last = (f + F - 1, y, true)))))) := by
  by_cases h1 : first < 0
  · exact .inl ⟨h1, if_pos (.inl h1)⟩
  · by_cases h2 : last < 0
    · exact .inr (.inl ⟨by omega, h2, if_pos (.inr h2)⟩)
    · refine .inr (.inr ⟨by omega, by omega, max first 1, by omega, ?_⟩)
      unfold partT
      rw [if_neg (by omega)]
      by_cases h3 : cntP f b < max first 1
      · exact .inl ⟨h3, if_pos h3⟩
      · have hc : cntP f b = b - f := by
          unfold cntP at h3 ⊢
          split
          · rw [if_pos ‹_›] at h3; omega
          · rfl
        right
        rw [if_neg h3, hc]
        rw [hc] at h3
        refine ⟨by omega, by omega, rfl, (if last ≠ 0 ∧ last ≤ b - f then f + last else b), ?_, ?_⟩
        · by_cases h4 : last ≠ 0 ∧ last ≤ b - f
          · rw [if_pos h4]; omega
          · rw [if_neg h4]; omega
        · by_cases h5 : (if last ≠ 0 ∧ last ≤ b - f then f + last else b) ≤ f + max first 1 - 1
          · exact .inl ⟨h5, if_pos h5⟩
          · exact .inr ⟨by omega, if_neg h5⟩


end Go.Proofs.Ytilfhilebdkmkaa

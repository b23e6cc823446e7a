/-
  The walk that makes a line longer or shorter.
-/
import Derived.Test.YtbndnaohjloanaaDoorLineC
namespace Go.Proofs.YtbndnaohjloanaaDoor

open Go.RowKit

def zeroC : Cl := ⟨0, 0, false⟩
theorem made_cells (N : Nat) : (madeCells (Value.agg #[.int .i32 0, .int .u8 0, .bool false]).cells (N * 3)).toList = (List.replicate N zeroC).flatMap Cl.cells := by
  apply List.ext_getElem?
  intro j
  by_cases hj : j < N * 3
  · have hk : j / 3 < (List.replicate N zeroC).length := by simp; omega
    obtain ⟨h1, h2, h3⟩ := flat_at _ (j / 3) hk
    simp only [List.getElem_replicate] at h1 h2 h3
    have hm : (madeCells (Value.agg #[.int .i32 0, .int .u8 0, .bool false]).cells (N * 3)).toList[j]? = some ((#[Value.int .i32 0, .int .u8 0, .bool false])[j % 3]!) := by
      simp [madeCells, Value.cells, hj]
    rw [hm]
    rcases (by omega : j = j / 3 * 3 ∨ j = j / 3 * 3 + 1 ∨ j = j / 3 * 3 + 2) with e | e | e
    · have hr : j % 3 = 0 := by omega
      rw [hr, e, h1]; rfl
    · have hr : j % 3 = 1 := by omega
      rw [hr, e, h2]; rfl
    · have hr : j % 3 = 2 := by omega
      rw [hr, e, h3]; rfl
  · rw [List.getElem?_eq_none (by rw [made_len]; omega), List.getElem?_eq_none (by rw [flat_len]; simp; omega)]
/-- So many cells of it, and blanks. -/
def resP (l : List Cl) (N : Nat) : List Cl := l.take N ++ List.replicate (N - l.length) blankC
theorem resP_len (l : List Cl) (N : Nat) : (resP l N).length = N := by unfold resP; simp; omega
/-- Cells laid over a row, from a place on. -/
theorem splice_cells (L cs : List Cl) (F : Nat) (h : F + cs.length ≤ L.length) : splice (L.flatMap Cl.cells) (F * 3) (cs.flatMap Cl.cells) = (L.take F ++ cs ++ L.drop (F + cs.length)).flatMap Cl.cells := by
  unfold splice
  have h1 : (L.flatMap Cl.cells).take (F * 3) = (L.take F).flatMap Cl.cells := by
    have e : L.flatMap Cl.cells = (L.take F).flatMap Cl.cells ++ (L.drop F).flatMap Cl.cells := by rw [← List.flatMap_append, List.take_append_drop]
    rw [e, List.take_append_of_le_length (by rw [flat_len, List.length_take]; omega), List.take_of_length_le (by rw [flat_len, List.length_take]; omega)]
  have h2 : ∀ M, M ≤ L.length → (L.flatMap Cl.cells).drop (M * 3) = (L.drop M).flatMap Cl.cells := by
    intro M hM
    have e : L.flatMap Cl.cells = (L.take M).flatMap Cl.cells ++ (L.drop M).flatMap Cl.cells := by rw [← List.flatMap_append, List.take_append_drop]
    have hl : ((L.take M).flatMap Cl.cells).length = M * 3 := by rw [flat_len, List.length_take]; omega
    rw [e, List.drop_append_of_le_length (by omega), List.drop_eq_nil_of_le (by omega), List.nil_append]
  rw [h1, flat_len, show F * 3 + cs.length * 3 = (F + cs.length) * 3 from by omega, h2 _ h, ← List.append_assoc, List.flatMap_append, List.flatMap_append]
theorem splice_zero (l : List Cl) (N m : Nat) (hm : m = min l.length N) : splice ((List.replicate N zeroC).flatMap Cl.cells) 0 ((l.take m).flatMap Cl.cells) = (l.take m ++ List.replicate (N - m) zeroC).flatMap Cl.cells := by
  have hl : (l.take m).length = m := by rw [List.length_take]; omega
  have := splice_cells (List.replicate N zeroC) (l.take m) 0 (by rw [hl]; simp; omega)
  rw [Nat.zero_mul] at this
  rw [this, hl]
  simp
theorem erase_res (l : List Cl) (N m : Nat) (hm : m = min l.length N) : eraseP (l.take m ++ List.replicate (N - m) zeroC) m (N - m) = resP l N := by
  have hl : (l.take m).length = m := by rw [List.length_take]; omega
  unfold eraseP resP
  rw [List.take_append_of_le_length (by omega), List.take_of_length_le (by omega), List.drop_eq_nil_of_le (by simp; omega), List.append_nil]
  by_cases h : l.length ≤ N
  · obtain rfl : m = l.length := by omega
    rw [List.take_length, List.take_of_length_le h]
  · have hmn : m = N := by omega
    rw [show N - l.length = 0 from by omega, hmn, Nat.sub_self]
theorem resP_short (l : List Cl) (N : Nat) (h : N ≤ l.length) : resP l N = l.take N ∧ (l.take N).length = N := by
  unfold resP
  rw [show N - l.length = 0 from by omega]
  exact ⟨by simp, by rw [List.length_take]; omega⟩
theorem KL.far {w W : World} {x y : Array Value} (h : KL w x y W) {W' : World} {g : Nat} (hg : W.grownBy W' (some g)) (hge : w.heap.size + 2 ≤ g) : KL w x y W' := by
  refine ⟨h.1.grown hg ?_, h.2.1.grown hg ?_, h.2.2.grown hg h.2.2.size ?_⟩
  · intro e; injection e with e; omega
  · intro e; injection e with e; omega
  · intro k hk; injection hk with hk; omega
theorem KL.byNone {w W : World} {x y : Array Value} (h : KL w x y W) {W' : World} (hg : W.grownBy W' none) : KL w x y W' :=
  ⟨h.1.grown hg (by simp), h.2.1.grown hg (by simp), h.2.2.grown hg h.2.2.size (fun k hk => by cases hk)⟩
end Go.Proofs.YtbndnaohjloanaaDoor

/-
  More facts on slices: a slice of ints that came in has room for what it holds; a stored cell of a row of the call's own.
-/
import Derived.Test.YtdjbfnhgendacaaDoorCellF
namespace Go.Proofs.YtdjbfnhgendacaaDoor
open Go.RowKit

theorem rints_take {w : World} {A : Option Addr} {l : List Int} (h : RInts w A l) (n : Nat) : RInts w A (l.take n) := by
  have hle : (l.take n).length ≤ l.length := by rw [List.length_take]; omega
  refine ⟨by simp, fun hn => ?_⟩
  obtain ⟨ad, e, hb, hc⟩ := h.2 (by omega)
  refine ⟨ad, e, hb, fun j u hu => hc j u ?_⟩
  rw [← hu, List.map_take, List.getElem?_take, if_pos]
  rcases Nat.lt_or_ge j n with h' | h'
  · exact h'
  · rw [List.map_take, List.getElem?_take, if_neg (by omega)] at hu; cases hu
theorem flat_set (l : List Cl) (k : Nat) (hk : k < l.length) (c : Cl) :
    (((l.flatMap Cl.cells).set (k * 3) (.int .i32 c.g)).set (k * 3 + 1) (.int .u8 c.r)).set (k * 3 + 2) (.bool c.k) = (l.set k c).flatMap Cl.cells := by
  induction l generalizing k with
  | nil => simp at hk
  | cons x l ih =>
    cases k with
    | zero => simp [Cl.cells]
    | succ k =>
      have h := ih k (by simpa using hk)
      have e : (k + 1) * 3 = k * 3 + 3 := by omega
      rw [List.flatMap_cons, e, List.set_cons_succ, List.flatMap_cons, ← h]
      simp [Cl.cells]
theorem ocells_store {w : World} {base g n c : Nat} {l : List Cl} (hn : n = l.length) (h : OCells w base (.slice (some ⟨g, 0, none⟩) n c) l) (k : Nat) (hk : k < l.length) (x : Cl) :
    OCells (((w.setCell ⟨g, k * 3, none⟩ (.int .i32 x.g)).setCell ⟨g, k * 3 + 1, none⟩ (.int .u8 x.r)).setCell ⟨g, k * 3 + 2, none⟩ (.bool x.k)) base (.slice (some ⟨g, 0, none⟩) n c) (l.set k x) := by
  subst hn
  have h1 := (World.ownsRow.stored h (k * 3) (.int .i32 x.g)).1
  have h2 := (World.ownsRow.stored h1 (k * 3 + 1) (.int .u8 x.r)).1
  have h3 := (World.ownsRow.stored h2 (k * 3 + 2) (.bool x.k)).1
  rw [flat_set l k hk x] at h3
  unfold OCells
  rw [List.length_set]
  exact h3
theorem ocells_cell {w : World} {base g n c : Nat} {l : List Cl} (hn : n = l.length) (h : OCells w base (.slice (some ⟨g, 0, none⟩) n c) l) {k : Nat} (hk : k < l.length) :
    w.cell? ⟨g, k * 3, none⟩ = some (.int .i32 l[k].g) ∧ w.cell? ⟨g, k * 3 + 1, none⟩ = some (.int .u8 l[k].r) ∧ w.cell? ⟨g, k * 3 + 2, none⟩ = some (.bool l[k].k) ∧ ∀ j, w.frozen? ⟨g, j, none⟩ = false := by
  subst hn
  obtain ⟨h1, h2, h3⟩ := flat_at l k hk
  refine ⟨?_, ?_, ?_, fun j => World.ownsRow.frozenAt h j⟩
  · rw [World.ownsRow.cellAt h _ (by omega), h1]
  · rw [World.ownsRow.cellAt h _ (by omega), h2]
  · rw [World.ownsRow.cellAt h _ (by omega), h3]
theorem ocells_head {w : World} {base : Nat} {v : Value} {l : List Cl} (h : OCells w base v l) (hn : 0 < l.length) : ∃ g c, v = .slice (some ⟨g, 0, none⟩) l.length c ∧ base ≤ g := by
  rcases h.2 with ⟨_, h0⟩ | ⟨g, cap, _, hv, hb, _⟩
  · omega
  · exact ⟨g, cap, hv, hb⟩
end Go.Proofs.YtdjbfnhgendacaaDoor

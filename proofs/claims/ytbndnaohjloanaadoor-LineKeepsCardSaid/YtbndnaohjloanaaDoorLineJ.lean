/-
  The walk of the reference's Resize.
-/
import Derived.Test.YtbndnaohjloanaaDoorLineI
import Derived.RegionTactic
import Derived.Deep.Onto
namespace Go.Proofs.YtbndnaohjloanaaDoor

open Go.RowKit

/-- The first k cells of l, and blanks up to N. -/
def mixP (l : List Cl) (N k : Nat) : List Cl := l.take k ++ List.replicate (N - k) blankC
theorem mixP_len (l : List Cl) (N k : Nat) (hk : k ≤ N) (hl : k ≤ l.length) : (mixP l N k).length = N := by unfold mixP; simp; omega
theorem mixP_zero (l : List Cl) (N : Nat) : mixP l N 0 = List.replicate N blankC := by simp [mixP]
theorem mixP_step (l : List Cl) (N k : Nat) (hk : k < N) (hl : k < l.length) : (mixP l N k).set k l[k] = mixP l N (k + 1) := by
  unfold mixP
  have h1 : (l.take k).length = k := by simp; omega
  have h2 : N - k = (N - (k + 1)) + 1 := by omega
  rw [List.set_append_right _ _ (by omega), h1, Nat.sub_self, h2, List.replicate_succ, List.set_cons_zero, take_snoc l k hl, List.append_assoc]
  rfl
theorem mixP_all (l : List Cl) (N : Nat) (h : N ≤ l.length) : mixP l N N = resP l N := by
  unfold mixP resP
  rw [Nat.sub_self, Nat.sub_eq_zero_of_le h]
theorem mixP_short (l : List Cl) (N : Nat) (h : l.length ≤ N) : mixP l N l.length = resP l N := by
  unfold mixP resP
  rw [List.take_length, List.take_of_length_le h]
theorem OCells.cell3 {W : World} {b g n c : Nat} {L : List Cl} (h : OCells W b (.slice (some ⟨g, 0, none⟩) n c) L) (hn : n = L.length) {k : Nat} (hk : k < L.length) :
    W.cell? ⟨g, k * 3, none⟩ = some (.int .i32 L[k].g) ∧ W.cell? ⟨g, k * 3 + 1, none⟩ = some (.int .u8 L[k].r) ∧ W.cell? ⟨g, k * 3 + 2, none⟩ = some (.bool L[k].k) ∧ ∀ j, W.frozen? ⟨g, j, none⟩ = false := by
  subst hn
  obtain ⟨h1, h2, h3⟩ := flat_at L k hk
  refine ⟨?_, ?_, ?_, fun j => World.ownsRow.frozenAt h j⟩
  · rw [World.ownsRow.cellAt h _ (by omega), h1]
  · rw [World.ownsRow.cellAt h _ (by omega), h2]
  · rw [World.ownsRow.cellAt h _ (by omega), h3]
theorem OCells.set3 {W : World} {b g n c : Nat} {L : List Cl} (h : OCells W b (.slice (some ⟨g, 0, none⟩) n c) L) (hn : n = L.length) {k : Nat} (hk : k < L.length) (x : Cl) :
    OCells (((W.setCell ⟨g, k * 3, none⟩ (.int .i32 x.g)).setCell ⟨g, k * 3 + 1, none⟩ (.int .u8 x.r)).setCell ⟨g, k * 3 + 2, none⟩ (.bool x.k)) b (.slice (some ⟨g, 0, none⟩) n c) (L.set k x) := by
  subst hn
  have h1 := (World.ownsRow.stored h (k * 3) (.int .i32 x.g)).1
  have h2 := (World.ownsRow.stored h1 (k * 3 + 1) (.int .u8 x.r)).1
  have h3 := (World.ownsRow.stored h2 (k * 3 + 2) (.bool x.k)).1
  rw [flat_set L k hk x] at h3
  unfold OCells
  rw [List.length_set]
  exact h3
theorem OCells.apart {W : World} {b g : Nat} {v : Value} {L : List Cl} (h : OCells W b v L) (hne : ∀ k, v.ownBlock = some k → k ≠ g) (o : Nat) (u : Value) : OCells (W.setCell ⟨g, o, none⟩ u) b v L :=
  World.ownsRow.kept (row := some g) h grown_set1 (by
    rcases hk : v.ownBlock with _ | k
    · exact .inl rfl
    · right; intro e; exact hne k hk (by simpa using e))
theorem KL.beyond {w W : World} {x y : Array Value} (h : KL w x y W) {g : Nat} (hg : w.heap.size + 2 ≤ g) (o : Nat) (u : Value) : KL w x y (W.setCell ⟨g, o, none⟩ u) :=
  KL.grown h grown_set1 (fun k hk => by injection hk with e; omega)


end Go.Proofs.YtbndnaohjloanaaDoor

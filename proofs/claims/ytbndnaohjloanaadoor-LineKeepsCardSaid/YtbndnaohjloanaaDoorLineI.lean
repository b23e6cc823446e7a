/-
  The walks of the reference's Clamp and New.
-/
import Derived.Test.YtbndnaohjloanaaDoorLineH
import Derived.Deep.RegionLaw
namespace Go.Proofs.YtbndnaohjloanaaDoor

open Go.RowKit

/-- A number between two others. -/
def clampP (n a b : Int) : Int := if n < a then a else if n > b then b else n
theorem clampP_cols (c : Int) : clampP c 0 500 = (colsP c : Int) := by
  unfold clampP colsP
  split
  · omega
  · split <;> omega

theorem own_far {w : World} {base : Nat} {e : TypeId} {s n : Nat} {v : Value} {xs : List Value} (h : w.ownsRow base e s v n xs) : ∀ k, v.ownBlock = some k → base ≤ k := by
  rcases h.2 with ⟨rfl, _⟩ | ⟨g, cap, cur, rfl, hb, _⟩
  · intro k hk; simp [Value.ownBlock] at hk
  · intro k hk; simp [Value.ownBlock] at hk; omega
theorem KL.grown {w W w' : World} {x y : Array Value} {row : Option Nat} (h : KL w x y W) (hg : W.grownBy w' row) (hr : ∀ k, row = some k → w.heap.size + 2 ≤ k) : KL w x y w' :=
  ⟨h.1.grown hg (fun e => by have := hr _ e.symm; omega), h.2.1.grown hg (fun e => by have := hr _ e.symm; omega), h.2.2.grown hg h.2.2.size (fun k hk => by have := hr k hk; omega)⟩
theorem KL.set20 {w W : World} {x : Array Value} {c d : Value} (h : KL w x #[c, d] W) (u : Value) : KL w x #[u, d] (W.setCell ⟨w.heap.size + 1, 0, none⟩ u) :=
  ⟨Blk.far h.1 (by simp) _, h.2.1.set_ 0 u, h.2.2.setCell (by simp) _⟩
theorem KL.store1 {w W : World} {a b : Value} {y : Array Value} (h : KL w #[a, b] y W) (u v : Value) : KL w #[u, v] y ((W.setCell ⟨w.heap.size, 0, none⟩ u).setCell ⟨w.heap.size, 1, none⟩ v) :=
  ⟨(h.1.set_ 0 u).set_ 1 v, Blk.far (Blk.far h.2.1 (by simp) _) (by simp) _, (h.2.2.setCell (by simp) _).setCell (by simp) _⟩
theorem KL.first {w W : World} {a b : Value} {y : Array Value} (h : KL w #[a, b] y W) : W.cell? ⟨w.heap.size, 0, none⟩ = some a ∧ W.cell? ⟨w.heap.size, 1, none⟩ = some b ∧ W.frozen? ⟨w.heap.size, 0, none⟩ = false ∧ W.frozen? ⟨w.heap.size, 1, none⟩ = false :=
  ⟨h.1.cell 0, h.1.cell 1, h.1.frozen 0, h.1.frozen 1⟩
theorem OCells.far {w : World} {base : Nat} {v : Value} {l : List Cl} (h : OCells w base v l) {g : Nat} (hp : g < base) (o : Nat) (u : Value) : OCells (w.setCell ⟨g, o, none⟩ u) base v l :=
  World.ownsRow.kept (row := some g) h grown_set1 (by
    rcases hk : v.ownBlock with _ | k
    · exact .inl rfl
    · right; intro e; have := own_far h k hk; simp at e; omega)

theorem OCells.rep {W : World} {b k : Nat} {v : Value} {c : Cl} (h : OCells W b v (List.replicate k c)) : W.ownsRow b 45 3 v k ((List.replicate k c).flatMap Cl.cells) := by
  unfold OCells at h
  rw [List.length_replicate] at h
  exact h
theorem ocells_more {W : World} {b k : Nat} {v : Value} (h : W.ownsRow b 45 3 v (k + 1) ((List.replicate k blankC).flatMap Cl.cells ++ [.int .i32 32, .int .u8 0, .bool false])) : OCells W b v (List.replicate (k + 1) blankC) := by
  unfold OCells
  rw [List.length_replicate, List.replicate_succ', List.flatMap_append]
  exact h


end Go.Proofs.YtbndnaohjloanaaDoor

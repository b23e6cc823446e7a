/-
  The walks of the reference: is a column within a span; how many columns a span has.
-/
import Derived.Test.YtbndnaohjloanaaDoorLineS
import Derived.Test.YtbndnaohjloanaaDoorLineN
namespace Go.Proofs.YtbndnaohjloanaaDoor

open Go.RowKit

/-- Is a column within a span of a line? -/
def inP (n : Nat) (f t i : Int) : Bool := decide (0 ≤ i ∧ i < n ∧ f ≤ i ∧ i < t)
theorem inP_nat (n : Nat) (f t : Int) (k : Nat) : inP n f t k = decide (loP f ≤ k ∧ k < hiP n t) := by
  unfold inP loP hiP
  rw [decide_eq_decide]
  omega
theorem inP_int (n : Nat) (f t i : Int) : inP n f t i = decide ((loP f : Int) ≤ i ∧ i < hiP n t) := by
  unfold inP loP hiP
  rw [decide_eq_decide]
  omega

/-- A line's box is there, and nothing old has changed. -/
def KO (w : World) (x : Array Value) (w' : World) : Prop := Blk w' w.heap.size 29 x ∧ Below w.heap.size w w'
theorem KO.start (w : World) (x : Array Value) : KO w x (w.alloc (.cells x 29)) := ⟨Blk.new w _ x, (Below.refl _ _).alloc (Nat.le_refl _) _⟩
theorem KO.next {w W w' : World} {x : Array Value} (h : KO w x W) (hb : Below W.heap.size W w') : KO w x w' := ⟨h.1.next hb, h.2.trans (hb.mono h.2.size)⟩
theorem KO.two {w W : World} {a b : Value} (h : KO w #[a, b] W) : W.cell? ⟨w.heap.size, 0, none⟩ = some a ∧ W.cell? ⟨w.heap.size, 1, none⟩ = some b := ⟨h.1.cell 0, h.1.cell 1⟩

def firstP (F T : Nat) : Nat := if F < T then F else 0

end Go.Proofs.YtbndnaohjloanaaDoor

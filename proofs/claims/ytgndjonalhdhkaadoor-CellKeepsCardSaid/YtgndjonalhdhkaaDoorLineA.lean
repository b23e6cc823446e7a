/-
  The walks of lines: a copy of cells, a line like another.
-/
import Derived.Test.YtgndjonalhdhkaaDoorClB
import Derived.Test.YtgndjonalhdhkaaDoorCopyN
namespace Go.Proofs.YtgndjonalhdhkaaDoor

open Go.RowKit

/-- A block that holds just these cells. -/
def Row (w : World) (g : Nat) (l : List Cl) : Prop := Blk w g 42 (l.flatMap Cl.cells).toArray
/-- A line as it is handed over. -/
def lineV (A : Option Addr) (n c : Nat) (size : Int) : Value := .agg #[.slice A n c, .int .i64 size]
theorem own_blkN {w : World} {base g n s : Nat} {e : TypeId} {xs : List Value} (h : w.ownsRow base e s (.slice (some ⟨g, 0, none⟩) n n) n xs) : Blk w g e xs.toArray := by
  rcases h.2 with ⟨hv, _⟩ | ⟨g', cap, cur, hv, _, hg, _, _, hs, ht⟩
  · cases hv
  · simp only [Value.slice.injEq, Option.some.injEq, Addr.mk.injEq, and_true, true_and] at hv
    obtain ⟨rfl, rfl⟩ := hv
    have : cur.toList = xs := by rw [← ht]; exact (List.take_of_length_le (by simp; omega)).symm
    unfold Blk
    rw [hg, ← this]
theorem Row.lt {w : World} {g : Nat} {l : List Cl} (h : Row w g l) : g < w.heap.size := Blk.lt h
theorem Row.next {w w' : World} {g : Nat} {l : List Cl} (h : Row w g l) (hb : Below w.heap.size w w') : Row w' g l := Blk.next h hb
theorem add_cell (g j : Nat) : (⟨g, 0, none⟩ : Addr).add j = ⟨g, j, none⟩ := by unfold Addr.add; split <;> simp_all
theorem Row.reads {w : World} {g : Nat} {l : List Cl} (h : Row w g l) : RCells w (some ⟨g, 0, none⟩) l := by
  refine ⟨flat_len _, fun _ => ⟨_, rfl, h.lt, fun j u hu => ?_⟩⟩
  rw [add_cell, Blk.cell h j]
  simpa using hu
theorem splice_row {α : Type} (L cs : List α) (h : cs.length = L.length) : splice L 0 cs = cs := by simp [splice, h]
theorem below_none {B : Nat} {w w' : World} (h : w.grownBy w' none) (hB : B ≤ w.heap.size) : Below B w w' := (Below.refl _ _).grown h hB (fun k hk => by cases hk)
theorem made_len (z : Array Value) (n : Nat) : (madeCells z n).toList.length = n := by simp [madeCells]









end Go.Proofs.YtgndjonalhdhkaaDoor

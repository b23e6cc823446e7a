/-
  The deeds that are done with a cell, the reference's.
-/
import Derived.Test.YtjljhnahofkmaaaDoorDeedA
import Derived.Test.YtjljhnahofkmaaaDoorRendE
import Derived.Test.YtjljhnahofkmaaaDoorRendF
namespace Go.Proofs.YtjljhnahofkmaaaDoor

open Go Go.RowKit

/-- Three boxes of cells. -/
def KD (w : World) (x y z : Array Value) (w' : World) : Prop := Blk w' w.heap.size 37 x ∧ Blk w' (w.heap.size + 1) 37 y ∧ Blk w' (w.heap.size + 1 + 1) 37 z ∧ Below w.heap.size w w'
theorem KD.start (w : World) (x y z : Array Value) : KD w x y z (((w.alloc (.cells x 37)).alloc (.cells y 37)).alloc (.cells z 37)) := by
  have h := KC.start w x y
  have h3 := Blk.new ((w.alloc (.cells x 37)).alloc (.cells y 37)) 37 z
  simp at h3
  exact ⟨h.1.alloc _, h.2.1.alloc _, h3, h.2.2.alloc (by simp; omega) _⟩
theorem KD.next {w W w' : World} {x y z : Array Value} (h : KD w x y z W) (hb : Below W.heap.size W w') : KD w x y z w' := ⟨h.1.next hb, h.2.1.next hb, h.2.2.1.next hb, h.2.2.2.trans (hb.mono h.2.2.2.size)⟩
theorem KD.all {w W : World} {a b c a' b' c' d e f : Value} (h : KD w #[a, b, c] #[a', b', c'] #[d, e, f] W) :
    (W.cell? ⟨w.heap.size, 0, none⟩ = some a ∧ W.cell? ⟨w.heap.size, 1, none⟩ = some b ∧ W.cell? ⟨w.heap.size, 2, none⟩ = some c) ∧ (W.cell? ⟨w.heap.size + 1, 0, none⟩ = some a' ∧ W.cell? ⟨w.heap.size + 1, 1, none⟩ = some b' ∧ W.cell? ⟨w.heap.size + 1, 2, none⟩ = some c') ∧ (W.cell? ⟨w.heap.size + 1 + 1, 0, none⟩ = some d ∧ W.cell? ⟨w.heap.size + 1 + 1, 1, none⟩ = some e ∧ W.cell? ⟨w.heap.size + 1 + 1, 2, none⟩ = some f) ∧ W.frozen? ⟨w.heap.size, 0, none⟩ = false ∧ W.frozen? ⟨w.heap.size, 1, none⟩ = false ∧ W.frozen? ⟨w.heap.size, 2, none⟩ = false ∧ W.frozen? ⟨w.heap.size + 1 + 1, 0, none⟩ = false ∧ W.frozen? ⟨w.heap.size + 1 + 1, 1, none⟩ = false ∧ W.frozen? ⟨w.heap.size + 1 + 1, 2, none⟩ = false :=
  ⟨⟨h.1.cell 0, h.1.cell 1, h.1.cell 2⟩, ⟨h.2.1.cell 0, h.2.1.cell 1, h.2.1.cell 2⟩, ⟨h.2.2.1.cell 0, h.2.2.1.cell 1, h.2.2.1.cell 2⟩, h.1.frozen 0, h.1.frozen 1, h.1.frozen 2, h.2.2.1.frozen 0, h.2.2.1.frozen 1, h.2.2.1.frozen 2⟩
theorem KD.set0 {w W : World} {a b c : Value} {y z : Array Value} (h : KD w #[a, b, c] y z W) (v : Value) : KD w #[v, b, c] y z (W.setCell ⟨w.heap.size, 0, none⟩ v) :=
  ⟨h.1.set_ 0 v, Blk.far h.2.1 (by simp) _, Blk.far h.2.2.1 (by simp; omega) _, h.2.2.2.setCell (by simp) _⟩
theorem KD.set1 {w W : World} {a b c : Value} {y z : Array Value} (h : KD w #[a, b, c] y z W) (v : Value) : KD w #[a, v, c] y z (W.setCell ⟨w.heap.size, 1, none⟩ v) :=
  ⟨h.1.set_ 1 v, Blk.far h.2.1 (by simp) _, Blk.far h.2.2.1 (by simp; omega) _, h.2.2.2.setCell (by simp) _⟩
theorem KD.set2 {w W : World} {a b c : Value} {y z : Array Value} (h : KD w #[a, b, c] y z W) (v : Value) : KD w #[a, b, v] y z (W.setCell ⟨w.heap.size, 2, none⟩ v) :=
  ⟨h.1.set_ 2 v, Blk.far h.2.1 (by simp) _, Blk.far h.2.2.1 (by simp; omega) _, h.2.2.2.setCell (by simp) _⟩
theorem KD.put {w W : World} {x y : Array Value} {a b c : Value} (h : KD w x y #[a, b, c] W) (u v z : Value) : KD w x y #[u, v, z] (((W.setCell ⟨w.heap.size + 1 + 1, 0, none⟩ u).setCell ⟨w.heap.size + 1 + 1, 1, none⟩ v).setCell ⟨w.heap.size + 1 + 1, 2, none⟩ z) :=
  ⟨Blk.far (Blk.far (Blk.far h.1 (by simp; omega) _) (by simp; omega) _) (by simp; omega) _, Blk.far (Blk.far (Blk.far h.2.1 (by simp) _) (by simp) _) (by simp) _, ((h.2.2.1.set_ 0 u).set_ 1 v).set_ 2 z, ((h.2.2.2.setCell (by simp; omega) _).setCell (by simp; omega) _).setCell (by simp; omega) _⟩




end Go.Proofs.YtjljhnahofkmaaaDoor

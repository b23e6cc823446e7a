/-
  States of sets: a set is designated.
-/
import Derived.Test.YtmhccngfmjggoaaDoorIsoA
import Derived.Deep.RegionHeld3
import Derived.Deep.DeepCutAuto
namespace Go.Proofs.YtmhccngfmjggoaaDoor

open Go Go.RowKit

theorem seven {w : World} {g : Nat} {T : TypeId} {v0 v1 v2 v3 v4 v5 v6 : Value} (h : Blk w g T #[v0, v1, v2, v3, v4, v5, v6]) :
    w.cell? ⟨g, 0, none⟩ = some v0 ∧ w.cell? ⟨g, 1, none⟩ = some v1 ∧ w.cell? ⟨g, 2, none⟩ = some v2 ∧ w.cell? ⟨g, 3, none⟩ = some v3 ∧ w.cell? ⟨g, 4, none⟩ = some v4 ∧ w.cell? ⟨g, 5, none⟩ = some v5 ∧ w.cell? ⟨g, 6, none⟩ = some v6 :=
  ⟨h.cell 0, h.cell 1, h.cell 2, h.cell 3, h.cell 4, h.cell 5, h.cell 6⟩
theorem seven_fr {w : World} {g : Nat} {T : TypeId} {cs : Array Value} (h : Blk w g T cs) :
    w.frozen? ⟨g, 0, none⟩ = false ∧ w.frozen? ⟨g, 1, none⟩ = false ∧ w.frozen? ⟨g, 2, none⟩ = false ∧ w.frozen? ⟨g, 3, none⟩ = false ∧ w.frozen? ⟨g, 4, none⟩ = false ∧ w.frozen? ⟨g, 5, none⟩ = false ∧ w.frozen? ⟨g, 6, none⟩ = false :=
  ⟨h.frozen 0, h.frozen 1, h.frozen 2, h.frozen 3, h.frozen 4, h.frozen 5, h.frozen 6⟩
def put7 (w : World) (g : Nat) (v0 v1 v2 v3 v4 v5 v6 : Value) : World := ((((((w.setCell ⟨g, 0, none⟩ v0).setCell ⟨g, 1, none⟩ v1).setCell ⟨g, 2, none⟩ v2).setCell ⟨g, 3, none⟩ v3).setCell ⟨g, 4, none⟩ v4).setCell ⟨g, 5, none⟩ v5).setCell ⟨g, 6, none⟩ v6
theorem put7_blk {w : World} {g : Nat} {T : TypeId} {u0 u1 u2 u3 u4 u5 u6 : Value} (h : Blk w g T #[u0, u1, u2, u3, u4, u5, u6]) (v0 v1 v2 v3 v4 v5 v6 : Value) : Blk (put7 w g v0 v1 v2 v3 v4 v5 v6) g T #[v0, v1, v2, v3, v4, v5, v6] := by
  have := ((((((h.set_ 0 v0).set_ 1 v1).set_ 2 v2).set_ 3 v3).set_ 4 v4).set_ 5 v5).set_ 6 v6
  simp only [List.setIfInBounds_toArray, List.set_cons_zero, List.set_cons_succ] at this
  exact this
theorem put7_below {w W : World} {B g : Nat} (h : Below B w W) (hg : B ≤ g) (v0 v1 v2 v3 v4 v5 v6 : Value) : Below B w (put7 W g v0 v1 v2 v3 v4 v5 v6) :=
  ((((((h.setCell (p := ⟨g, 0, none⟩) hg v0).setCell (p := ⟨g, 1, none⟩) hg v1).setCell (p := ⟨g, 2, none⟩) hg v2).setCell (p := ⟨g, 3, none⟩) hg v3).setCell (p := ⟨g, 4, none⟩) hg v4).setCell (p := ⟨g, 5, none⟩) hg v5).setCell (p := ⟨g, 6, none⟩) hg v6
def Iso.put (x : Iso) (g : Int) (n : Int) : Iso := if g = 0 then { x with a := n } else if g = 1 then { x with b := n } else if g = 2 then { x with c := n } else { x with d := n }
/-- A set designated, or not. -/
def desP (x : Iso) (g : Int) (wide : Bool) (id : ByteArray) : Iso × Bool := if fndP (metP wide id) ≠ 0 ∧ inB 0 g = true ∧ ¬ (g = 0 ∧ wide = true) then (x.put g (fndP (metP wide id)), true) else (x, false)
def desV (p : Iso × Bool) : Value := .tuple #[p.1.val, .bool p.2]
/-- What is known in its midst. -/
def KI (w : World) (x : Array Value) (w' : World) : Prop := Blk w' w.heap.size 40 x ∧ Blk w' (w.heap.size + 1) 40 #[.int .i64 0, .int .i64 0, .int .i64 0, .int .i64 0, .int .i64 0, .int .i64 0, .int .i64 0] ∧ Below w.heap.size w w'
theorem KI.start (w : World) (x : Array Value) : KI w x ((w.alloc (.cells x 40)).alloc (.cells #[.int .i64 0, .int .i64 0, .int .i64 0, .int .i64 0, .int .i64 0, .int .i64 0, .int .i64 0] 40)) :=
  ⟨(Blk.new w _ x).alloc _, by have := Blk.new (w.alloc (.cells x 40)) 40 #[.int .i64 0, .int .i64 0, .int .i64 0, .int .i64 0, .int .i64 0, .int .i64 0, .int .i64 0]; simpa using this, ((Below.refl _ _).alloc (Nat.le_refl _) _).alloc (by simp) _⟩
theorem KI.next {w W w' : World} {x : Array Value} (h : KI w x W) (hb : Below W.heap.size W w') : KI w x w' := ⟨h.1.next hb, h.2.1.next hb, h.2.2.trans (hb.mono h.2.2.size)⟩
theorem KI.store {w W : World} {a b c d l r s : Value} (h : KI w #[a, b, c, d, l, r, s] W) (k : Nat) (v : Value) : KI w (#[a, b, c, d, l, r, s].setIfInBounds k v) (W.setCell ⟨w.heap.size, k, none⟩ v) :=
  ⟨h.1.set_ k v, Blk.far h.2.1 (by simp) _, h.2.2.setCell (by simp) _⟩
theorem KI.res {w W : World} {x : Array Value} (h : KI w x W) (v0 v1 v2 v3 v4 v5 v6 : Value) :
    ((put7 W (w.heap.size + 1) v0 v1 v2 v3 v4 v5 v6).cell? ⟨w.heap.size + 1, 0, none⟩ = some v0 ∧ (put7 W (w.heap.size + 1) v0 v1 v2 v3 v4 v5 v6).cell? ⟨w.heap.size + 1, 1, none⟩ = some v1 ∧ (put7 W (w.heap.size + 1) v0 v1 v2 v3 v4 v5 v6).cell? ⟨w.heap.size + 1, 2, none⟩ = some v2 ∧ (put7 W (w.heap.size + 1) v0 v1 v2 v3 v4 v5 v6).cell? ⟨w.heap.size + 1, 3, none⟩ = some v3 ∧ (put7 W (w.heap.size + 1) v0 v1 v2 v3 v4 v5 v6).cell? ⟨w.heap.size + 1, 4, none⟩ = some v4 ∧ (put7 W (w.heap.size + 1) v0 v1 v2 v3 v4 v5 v6).cell? ⟨w.heap.size + 1, 5, none⟩ = some v5 ∧ (put7 W (w.heap.size + 1) v0 v1 v2 v3 v4 v5 v6).cell? ⟨w.heap.size + 1, 6, none⟩ = some v6) ∧ Below w.heap.size w (put7 W (w.heap.size + 1) v0 v1 v2 v3 v4 v5 v6) :=
  ⟨seven (put7_blk h.2.1 v0 v1 v2 v3 v4 v5 v6), put7_below h.2.2 (by omega) _ _ _ _ _ _ _⟩

end Go.Proofs.YtmhccngfmjggoaaDoor

/-
  The deeds that are done with a cell, the program's: all but the glyph stays, a rendition is changed or turned over, a cell is kept or not.
-/
import Derived.Test.YtbndnaohjloanaaDoorLineM
import Derived.Test.YtbndnaohjloanaaDoorRendB
namespace Go.Proofs.YtbndnaohjloanaaDoor

open Go Go.RowKit

def cleanC (g : Int) (x : Cl) : Cl := if x.k then x else ⟨g, x.r, x.k⟩
def applyC (ns : List Int) (x : Cl) : Cl := ⟨x.g, apply x.r ns, x.k⟩
def flipC (ns : List Int) (x : Cl) : Cl := ⟨x.g, flip x.r ns, x.k⟩
def keepC (b : Bool) (x : Cl) : Cl := ⟨x.g, x.r, b⟩
set_option maxRecDepth 100000 in
set_option maxHeartbeats 1000000 in
theorem clean1_any (c x : Cl) (w : World) :
    Calls Tryd.prog 27 #[c.val, x.val] w fun e w' => e = .returned (cleanC c.g x).val ∧ Below w.heap.size w w' := by
  obtain ⟨g, r, k⟩ := c
  obtain ⟨g', r', k'⟩ := x
  unfold Cl.val cleanC
  cases k' with
  | false =>
    go_enter Tryd.func27, Tryd.ntmps27
    go_wp2_with fail
    exact bodyPost_ret (v := .agg #[.int .i32 g, .int .u8 r', .bool false]) (by simp [results, Tryd.results27, go_sem]) rfl ⟨rfl, by go_grown⟩
  | true =>
    go_enter Tryd.func27, Tryd.ntmps27
    go_wp2_with fail
    exact bodyPost_ret (v := .agg #[.int .i32 g', .int .u8 r', .bool true]) (by simp [results, Tryd.results27, go_sem]) rfl ⟨rfl, by go_grown⟩
/-- Two boxes of cells. -/
def KC (w : World) (x y : Array Value) (w' : World) : Prop := Blk w' w.heap.size 45 x ∧ Blk w' (w.heap.size + 1) 45 y ∧ Below w.heap.size w w'
theorem KC.start (w : World) (x y : Array Value) : KC w x y ((w.alloc (.cells x 45)).alloc (.cells y 45)) :=
  ⟨(Blk.new w _ x).alloc _, by have := Blk.new (w.alloc (.cells x 45)) 45 y; simpa using this, ((Below.refl _ _).alloc (Nat.le_refl _) _).alloc (by simp) _⟩
theorem KC.next {w W w' : World} {x y : Array Value} (h : KC w x y W) (hb : Below W.heap.size W w') : KC w x y w' := ⟨h.1.next hb, h.2.1.next hb, h.2.2.trans (hb.mono h.2.2.size)⟩
theorem KC.all {w W : World} {a b c d e f : Value} (h : KC w #[a, b, c] #[d, e, f] W) :
    (W.cell? ⟨w.heap.size, 0, none⟩ = some a ∧ W.cell? ⟨w.heap.size, 1, none⟩ = some b ∧ W.cell? ⟨w.heap.size, 2, none⟩ = some c) ∧ (W.cell? ⟨w.heap.size + 1, 0, none⟩ = some d ∧ W.cell? ⟨w.heap.size + 1, 1, none⟩ = some e ∧ W.cell? ⟨w.heap.size + 1, 2, none⟩ = some f) ∧ W.frozen? ⟨w.heap.size, 1, none⟩ = false ∧ W.frozen? ⟨w.heap.size, 2, none⟩ = false ∧ W.frozen? ⟨w.heap.size + 1, 0, none⟩ = false ∧ W.frozen? ⟨w.heap.size + 1, 1, none⟩ = false ∧ W.frozen? ⟨w.heap.size + 1, 2, none⟩ = false :=
  ⟨⟨h.1.cell 0, h.1.cell 1, h.1.cell 2⟩, ⟨h.2.1.cell 0, h.2.1.cell 1, h.2.1.cell 2⟩, h.1.frozen 1, h.1.frozen 2, h.2.1.frozen 0, h.2.1.frozen 1, h.2.1.frozen 2⟩
theorem KC.set1 {w W : World} {a b c : Value} {y : Array Value} (h : KC w #[a, b, c] y W) (v : Value) : KC w #[a, v, c] y (W.setCell ⟨w.heap.size, 1, none⟩ v) :=
  ⟨h.1.set_ 1 v, Blk.far h.2.1 (by simp) _, h.2.2.setCell (by simp) _⟩
theorem KC.set2 {w W : World} {a b c : Value} {y : Array Value} (h : KC w #[a, b, c] y W) (v : Value) : KC w #[a, b, v] y (W.setCell ⟨w.heap.size, 2, none⟩ v) :=
  ⟨h.1.set_ 2 v, Blk.far h.2.1 (by simp) _, h.2.2.setCell (by simp) _⟩
theorem KC.put {w W : World} {x : Array Value} {a b c : Value} (h : KC w x #[a, b, c] W) (u v z : Value) : KC w x #[u, v, z] (((W.setCell ⟨w.heap.size + 1, 0, none⟩ u).setCell ⟨w.heap.size + 1, 1, none⟩ v).setCell ⟨w.heap.size + 1, 2, none⟩ z) :=
  ⟨Blk.far (Blk.far (Blk.far h.1 (by simp) _) (by simp) _) (by simp) _, ((h.2.1.set_ 0 u).set_ 1 v).set_ 2 z, ((h.2.2.setCell (by simp) _).setCell (by simp) _).setCell (by simp) _⟩
set_option maxRecDepth 100000 in
set_option maxHeartbeats 1000000 in
theorem apply1_any (x : Cl) (hx : 0 ≤ x.r ∧ x.r ≤ 255) (A : Option Addr) (c : Nat) (ns : List Int) (hm : ns.length ≤ maxLen) (w : World) (ht : Tab w) (hr : RInts w A ns) :
    Calls Tryd.prog 28 #[.slice A ns.length c, x.val] w fun e w' => e = .returned (applyC ns x).val ∧ Below w.heap.size w w' := by
  obtain ⟨g, r, k⟩ := x
  have HA := Lib.hid (fun W h1 h2 => apply_any r hx.1 hx.2 A c ns hm W h1 h2)
  have HT := Lib.hid ht; have HR := Lib.hid hr
  clear ht hr hm hx
  unfold Cl.val applyC
  generalize ns.length = n at *
  simp only
  generalize apply r ns = r2 at *
  have HK := Lib.hid (KC.start w #[.int .i32 g, .int .u8 r, .bool k] #[.int .i32 0, .int .u8 0, .bool false])
  go_enter Tryd.func28, Tryd.ntmps28
  go_wp2_with fail
  refine (HA.out _ (HT.out.next HK.out.2.2) (HR.out.next HK.out.2.2)).mono ?_
  rintro e w1 ⟨rfl, hb1⟩
  have HK1 := Lib.hid (HK.out.next hb1)
  clear hb1
  have HK2 := Lib.hid (HK1.out.set1 (.int .u8 r2))
  have HK3 := Lib.hid (HK2.out.put (.int .i32 g) (.int .u8 r2) (.bool k))
  obtain ⟨⟨a0, a1, a2⟩, ⟨b0, b1, b2⟩, f0, f1, f2, f3, f4⟩ := HK1.out.all
  obtain ⟨⟨c0, c1, c2⟩, ⟨d0, d1, d2⟩, g0, g1, g2, g3, g4⟩ := HK2.out.all
  go_wp2_with fail
  obtain ⟨_, ⟨e0, e1, e2⟩, _⟩ := HK3.out.all
  exact bodyPost_ret (v := .agg #[.int .i32 g, .int .u8 r2, .bool k]) (by simp [results, Tryd.results28, go_sem, e0, e1, e2]) rfl ⟨rfl, HK3.out.2.2⟩


end Go.Proofs.YtbndnaohjloanaaDoor

/-
  Cursors as thirteen cells, frames as eight; what only turns one into the other.
  Cursors: new ones; as the document has them, as the program has them; put to a place; brought to a box.
  Cursors: put to a place, brought to a box, within a width; numbers of a move; pages and margins.
  Cursors: within a width; numbers of a move.
  Frames: the page, the margins, one of them.
  Frames: the document's margins, areas; cursors on the page, within the margins.
-/
import Derived.Test.YtfnamfkjbkhgeaaGreatDoorBoxM
namespace Go.Proofs.YtfnamfkjbkhgeaaGreatDoor

open Go Go.RowKit

/-- What a move leaves of a cursor. -/
structure CK where
  rd : Int
  kp : Bool
  og : Bool
  a : Int
  b : Int
  c : Int
  d : Int
  l : Int
  r : Int
  s : Int
abbrev uC (r c : Int) (wp : Bool) (K : CK) : Array Value := #[.int .i64 r, .int .i64 c, .int .u8 K.rd, .bool K.kp, .bool wp, .bool K.og, .int .i64 K.a, .int .i64 K.b, .int .i64 K.c, .int .i64 K.d, .int .i64 K.l, .int .i64 K.r, .int .i64 K.s]
def uV (r c : Int) (wp : Bool) (K : CK) : Value := .agg #[.int .i64 r, .int .i64 c, .int .u8 K.rd, .bool K.kp, .bool wp, .bool K.og, .int .i64 K.a, .int .i64 K.b, .int .i64 K.c, .int .i64 K.d, .int .i64 K.l, .int .i64 K.r, .int .i64 K.s]
abbrev zU : Array Value := #[.int .i64 0, .int .i64 0, .int .u8 0, .bool false, .bool false, .bool false, .int .i64 0, .int .i64 0, .int .i64 0, .int .i64 0, .int .i64 0, .int .i64 0, .int .i64 0]
/-- A frame: the page's box, and the margins. -/
structure Fr where
  pt : Int
  pl : Int
  pb : Int
  pr : Int
  mt : Int
  ml : Int
  mb : Int
  mr : Int
abbrev fC (f : Fr) : Array Value := #[.int .i64 f.pt, .int .i64 f.pl, .int .i64 f.pb, .int .i64 f.pr, .int .i64 f.mt, .int .i64 f.ml, .int .i64 f.mb, .int .i64 f.mr]
def fV (f : Fr) : Value := .agg #[.int .i64 f.pt, .int .i64 f.pl, .int .i64 f.pb, .int .i64 f.pr, .int .i64 f.mt, .int .i64 f.ml, .int .i64 f.mb, .int .i64 f.mr]

theorem cur13 {w : World} {g : Nat} {T : TypeId} {v0 v1 v2 v3 v4 v5 v6 v7 v8 v9 v10 v11 v12 : Value} (h : Blk w g T #[v0, v1, v2, v3, v4, v5, v6, v7, v8, v9, v10, v11, v12]) : w.cell? ⟨g, 0, none⟩ = some v0 ∧ w.cell? ⟨g, 1, none⟩ = some v1 ∧ w.cell? ⟨g, 2, none⟩ = some v2 ∧ w.cell? ⟨g, 3, none⟩ = some v3 ∧ w.cell? ⟨g, 4, none⟩ = some v4 ∧ w.cell? ⟨g, 5, none⟩ = some v5 ∧ w.cell? ⟨g, 6, none⟩ = some v6 ∧ w.cell? ⟨g, 7, none⟩ = some v7 ∧ w.cell? ⟨g, 8, none⟩ = some v8 ∧ w.cell? ⟨g, 9, none⟩ = some v9 ∧ w.cell? ⟨g, 10, none⟩ = some v10 ∧ w.cell? ⟨g, 11, none⟩ = some v11 ∧ w.cell? ⟨g, 12, none⟩ = some v12 :=
  ⟨h.cell 0, h.cell 1, h.cell 2, h.cell 3, h.cell 4, h.cell 5, h.cell 6, h.cell 7, h.cell 8, h.cell 9, h.cell 10, h.cell 11, h.cell 12⟩
theorem fro13 {w : World} {g : Nat} {T : TypeId} {cs : Array Value} (h : Blk w g T cs) : w.frozen? ⟨g, 0, none⟩ = false ∧ w.frozen? ⟨g, 1, none⟩ = false ∧ w.frozen? ⟨g, 2, none⟩ = false ∧ w.frozen? ⟨g, 3, none⟩ = false ∧ w.frozen? ⟨g, 4, none⟩ = false ∧ w.frozen? ⟨g, 5, none⟩ = false ∧ w.frozen? ⟨g, 6, none⟩ = false ∧ w.frozen? ⟨g, 7, none⟩ = false ∧ w.frozen? ⟨g, 8, none⟩ = false ∧ w.frozen? ⟨g, 9, none⟩ = false ∧ w.frozen? ⟨g, 10, none⟩ = false ∧ w.frozen? ⟨g, 11, none⟩ = false ∧ w.frozen? ⟨g, 12, none⟩ = false :=
  ⟨h.frozen 0, h.frozen 1, h.frozen 2, h.frozen 3, h.frozen 4, h.frozen 5, h.frozen 6, h.frozen 7, h.frozen 8, h.frozen 9, h.frozen 10, h.frozen 11, h.frozen 12⟩
theorem fra8 {w : World} {g : Nat} {T : TypeId} {v0 v1 v2 v3 v4 v5 v6 v7 : Value} (h : Blk w g T #[v0, v1, v2, v3, v4, v5, v6, v7]) : w.cell? ⟨g, 0, none⟩ = some v0 ∧ w.cell? ⟨g, 1, none⟩ = some v1 ∧ w.cell? ⟨g, 2, none⟩ = some v2 ∧ w.cell? ⟨g, 3, none⟩ = some v3 ∧ w.cell? ⟨g, 4, none⟩ = some v4 ∧ w.cell? ⟨g, 5, none⟩ = some v5 ∧ w.cell? ⟨g, 6, none⟩ = some v6 ∧ w.cell? ⟨g, 7, none⟩ = some v7 :=
  ⟨h.cell 0, h.cell 1, h.cell 2, h.cell 3, h.cell 4, h.cell 5, h.cell 6, h.cell 7⟩
def put13 (w : World) (g : Nat) (v0 v1 v2 v3 v4 v5 v6 v7 v8 v9 v10 v11 v12 : Value) : World := ((((((((((((w.setCell ⟨g, 0, none⟩ v0).setCell ⟨g, 1, none⟩ v1).setCell ⟨g, 2, none⟩ v2).setCell ⟨g, 3, none⟩ v3).setCell ⟨g, 4, none⟩ v4).setCell ⟨g, 5, none⟩ v5).setCell ⟨g, 6, none⟩ v6).setCell ⟨g, 7, none⟩ v7).setCell ⟨g, 8, none⟩ v8).setCell ⟨g, 9, none⟩ v9).setCell ⟨g, 10, none⟩ v10).setCell ⟨g, 11, none⟩ v11).setCell ⟨g, 12, none⟩ v12
theorem put13_repl {w : World} {g : Nat} {T : TypeId} {u0 u1 u2 u3 u4 u5 u6 u7 u8 u9 u10 u11 u12 : Value} (h : Blk w g T #[u0, u1, u2, u3, u4, u5, u6, u7, u8, u9, u10, u11, u12]) (v0 v1 v2 v3 v4 v5 v6 v7 v8 v9 v10 v11 v12 : Value) : Repl w (put13 w g v0 v1 v2 v3 v4 v5 v6 v7 v8 v9 v10 v11 v12) g T #[v0, v1, v2, v3, v4, v5, v6, v7, v8, v9, v10, v11, v12] := by
  unfold put13
  have h0 : Repl w (w.setCell ⟨g, 0, none⟩ v0) g T #[v0, u1, u2, u3, u4, u5, u6, u7, u8, u9, u10, u11, u12] := Repl.set h 0 v0
  have h1 : Repl (w.setCell ⟨g, 0, none⟩ v0) ((w.setCell ⟨g, 0, none⟩ v0).setCell ⟨g, 1, none⟩ v1) g T #[v0, v1, u2, u3, u4, u5, u6, u7, u8, u9, u10, u11, u12] := Repl.set h0.here 1 v1
  have h2 : Repl ((w.setCell ⟨g, 0, none⟩ v0).setCell ⟨g, 1, none⟩ v1) (((w.setCell ⟨g, 0, none⟩ v0).setCell ⟨g, 1, none⟩ v1).setCell ⟨g, 2, none⟩ v2) g T #[v0, v1, v2, u3, u4, u5, u6, u7, u8, u9, u10, u11, u12] := Repl.set h1.here 2 v2
  have h3 : Repl (((w.setCell ⟨g, 0, none⟩ v0).setCell ⟨g, 1, none⟩ v1).setCell ⟨g, 2, none⟩ v2) ((((w.setCell ⟨g, 0, none⟩ v0).setCell ⟨g, 1, none⟩ v1).setCell ⟨g, 2, none⟩ v2).setCell ⟨g, 3, none⟩ v3) g T #[v0, v1, v2, v3, u4, u5, u6, u7, u8, u9, u10, u11, u12] := Repl.set h2.here 3 v3
  have h4 : Repl ((((w.setCell ⟨g, 0, none⟩ v0).setCell ⟨g, 1, none⟩ v1).setCell ⟨g, 2, none⟩ v2).setCell ⟨g, 3, none⟩ v3) (((((w.setCell ⟨g, 0, none⟩ v0).setCell ⟨g, 1, none⟩ v1).setCell ⟨g, 2, none⟩ v2).setCell ⟨g, 3, none⟩ v3).setCell ⟨g, 4, none⟩ v4) g T #[v0, v1, v2, v3, v4, u5, u6, u7, u8, u9, u10, u11, u12] := Repl.set h3.here 4 v4
  have h5 : Repl (((((w.setCell ⟨g, 0, none⟩ v0).setCell ⟨g, 1, none⟩ v1).setCell ⟨g, 2, none⟩ v2).setCell ⟨g, 3, none⟩ v3).setCell ⟨g, 4, none⟩ v4) ((((((w.setCell ⟨g, 0, none⟩ v0).setCell ⟨g, 1, none⟩ v1).setCell ⟨g, 2, none⟩ v2).setCell ⟨g, 3, none⟩ v3).setCell ⟨g, 4, none⟩ v4).setCell ⟨g, 5, none⟩ v5) g T #[v0, v1, v2, v3, v4, v5, u6, u7, u8, u9, u10, u11, u12] := Repl.set h4.here 5 v5
  have h6 : Repl ((((((w.setCell ⟨g, 0, none⟩ v0).setCell ⟨g, 1, none⟩ v1).setCell ⟨g, 2, none⟩ v2).setCell ⟨g, 3, none⟩ v3).setCell ⟨g, 4, none⟩ v4).setCell ⟨g, 5, none⟩ v5) (((((((w.setCell ⟨g, 0, none⟩ v0).setCell ⟨g, 1, none⟩ v1).setCell ⟨g, 2, none⟩ v2).setCell ⟨g, 3, none⟩ v3).setCell ⟨g, 4, none⟩ v4).setCell ⟨g, 5, none⟩ v5).setCell ⟨g, 6, none⟩ v6) g T #[v0, v1, v2, v3, v4, v5, v6, u7, u8, u9, u10, u11, u12] := Repl.set h5.here 6 v6
  have h7 : Repl (((((((w.setCell ⟨g, 0, none⟩ v0).setCell ⟨g, 1, none⟩ v1).setCell ⟨g, 2, none⟩ v2).setCell ⟨g, 3, none⟩ v3).setCell ⟨g, 4, none⟩ v4).setCell ⟨g, 5, none⟩ v5).setCell ⟨g, 6, none⟩ v6) ((((((((w.setCell ⟨g, 0, none⟩ v0).setCell ⟨g, 1, none⟩ v1).setCell ⟨g, 2, none⟩ v2).setCell ⟨g, 3, none⟩ v3).setCell ⟨g, 4, none⟩ v4).setCell ⟨g, 5, none⟩ v5).setCell ⟨g, 6, none⟩ v6).setCell ⟨g, 7, none⟩ v7) g T #[v0, v1, v2, v3, v4, v5, v6, v7, u8, u9, u10, u11, u12] := Repl.set h6.here 7 v7
  have h8 : Repl ((((((((w.setCell ⟨g, 0, none⟩ v0).setCell ⟨g, 1, none⟩ v1).setCell ⟨g, 2, none⟩ v2).setCell ⟨g, 3, none⟩ v3).setCell ⟨g, 4, none⟩ v4).setCell ⟨g, 5, none⟩ v5).setCell ⟨g, 6, none⟩ v6).setCell ⟨g, 7, none⟩ v7) (((((((((w.setCell ⟨g, 0, none⟩ v0).setCell ⟨g, 1, none⟩ v1).setCell ⟨g, 2, none⟩ v2).setCell ⟨g, 3, none⟩ v3).setCell ⟨g, 4, none⟩ v4).setCell ⟨g, 5, none⟩ v5).setCell ⟨g, 6, none⟩ v6).setCell ⟨g, 7, none⟩ v7).setCell ⟨g, 8, none⟩ v8) g T #[v0, v1, v2, v3, v4, v5, v6, v7, v8, u9, u10, u11, u12] := Repl.set h7.here 8 v8
  have h9 : Repl (((((((((w.setCell ⟨g, 0, none⟩ v0).setCell ⟨g, 1, none⟩ v1).setCell ⟨g, 2, none⟩ v2).setCell ⟨g, 3, none⟩ v3).setCell ⟨g, 4, none⟩ v4).setCell ⟨g, 5, none⟩ v5).setCell ⟨g, 6, none⟩ v6).setCell ⟨g, 7, none⟩ v7).setCell ⟨g, 8, none⟩ v8) ((((((((((w.setCell ⟨g, 0, none⟩ v0).setCell ⟨g, 1, none⟩ v1).setCell ⟨g, 2, none⟩ v2).setCell ⟨g, 3, none⟩ v3).setCell ⟨g, 4, none⟩ v4).setCell ⟨g, 5, none⟩ v5).setCell ⟨g, 6, none⟩ v6).setCell ⟨g, 7, none⟩ v7).setCell ⟨g, 8, none⟩ v8).setCell ⟨g, 9, none⟩ v9) g T #[v0, v1, v2, v3, v4, v5, v6, v7, v8, v9, u10, u11, u12] := Repl.set h8.here 9 v9
  have h10 : Repl ((((((((((w.setCell ⟨g, 0, none⟩ v0).setCell ⟨g, 1, none⟩ v1).setCell ⟨g, 2, none⟩ v2).setCell ⟨g, 3, none⟩ v3).setCell ⟨g, 4, none⟩ v4).setCell ⟨g, 5, none⟩ v5).setCell ⟨g, 6, none⟩ v6).setCell ⟨g, 7, none⟩ v7).setCell ⟨g, 8, none⟩ v8).setCell ⟨g, 9, none⟩ v9) (((((((((((w.setCell ⟨g, 0, none⟩ v0).setCell ⟨g, 1, none⟩ v1).setCell ⟨g, 2, none⟩ v2).setCell ⟨g, 3, none⟩ v3).setCell ⟨g, 4, none⟩ v4).setCell ⟨g, 5, none⟩ v5).setCell ⟨g, 6, none⟩ v6).setCell ⟨g, 7, none⟩ v7).setCell ⟨g, 8, none⟩ v8).setCell ⟨g, 9, none⟩ v9).setCell ⟨g, 10, none⟩ v10) g T #[v0, v1, v2, v3, v4, v5, v6, v7, v8, v9, v10, u11, u12] := Repl.set h9.here 10 v10
  have h11 : Repl (((((((((((w.setCell ⟨g, 0, none⟩ v0).setCell ⟨g, 1, none⟩ v1).setCell ⟨g, 2, none⟩ v2).setCell ⟨g, 3, none⟩ v3).setCell ⟨g, 4, none⟩ v4).setCell ⟨g, 5, none⟩ v5).setCell ⟨g, 6, none⟩ v6).setCell ⟨g, 7, none⟩ v7).setCell ⟨g, 8, none⟩ v8).setCell ⟨g, 9, none⟩ v9).setCell ⟨g, 10, none⟩ v10) ((((((((((((w.setCell ⟨g, 0, none⟩ v0).setCell ⟨g, 1, none⟩ v1).setCell ⟨g, 2, none⟩ v2).setCell ⟨g, 3, none⟩ v3).setCell ⟨g, 4, none⟩ v4).setCell ⟨g, 5, none⟩ v5).setCell ⟨g, 6, none⟩ v6).setCell ⟨g, 7, none⟩ v7).setCell ⟨g, 8, none⟩ v8).setCell ⟨g, 9, none⟩ v9).setCell ⟨g, 10, none⟩ v10).setCell ⟨g, 11, none⟩ v11) g T #[v0, v1, v2, v3, v4, v5, v6, v7, v8, v9, v10, v11, u12] := Repl.set h10.here 11 v11
  have h12 : Repl ((((((((((((w.setCell ⟨g, 0, none⟩ v0).setCell ⟨g, 1, none⟩ v1).setCell ⟨g, 2, none⟩ v2).setCell ⟨g, 3, none⟩ v3).setCell ⟨g, 4, none⟩ v4).setCell ⟨g, 5, none⟩ v5).setCell ⟨g, 6, none⟩ v6).setCell ⟨g, 7, none⟩ v7).setCell ⟨g, 8, none⟩ v8).setCell ⟨g, 9, none⟩ v9).setCell ⟨g, 10, none⟩ v10).setCell ⟨g, 11, none⟩ v11) (((((((((((((w.setCell ⟨g, 0, none⟩ v0).setCell ⟨g, 1, none⟩ v1).setCell ⟨g, 2, none⟩ v2).setCell ⟨g, 3, none⟩ v3).setCell ⟨g, 4, none⟩ v4).setCell ⟨g, 5, none⟩ v5).setCell ⟨g, 6, none⟩ v6).setCell ⟨g, 7, none⟩ v7).setCell ⟨g, 8, none⟩ v8).setCell ⟨g, 9, none⟩ v9).setCell ⟨g, 10, none⟩ v10).setCell ⟨g, 11, none⟩ v11).setCell ⟨g, 12, none⟩ v12) g T #[v0, v1, v2, v3, v4, v5, v6, v7, v8, v9, v10, v11, v12] := Repl.set h11.here 12 v12
  exact h0.trans (h1.trans (h2.trans (h3.trans (h4.trans (h5.trans (h6.trans (h7.trans (h8.trans (h9.trans (h10.trans (h11.trans (h12))))))))))))
/-- Blocks of the call's own, each with its number, and that old memory is as it was. -/
def Bs (w : World) (l : List (Nat × TypeId × Array Value)) (W : World) : Prop := (∀ x ∈ l, w.heap.size ≤ x.1 ∧ Blk W x.1 x.2.1 x.2.2) ∧ l.Pairwise (fun x y => x.1 ≠ y.1) ∧ Below w.heap.size w W
section

variable {w W W' : World} {l : List (Nat × TypeId × Array Value)} {b : Nat} {T : TypeId} {cs cs' : Array Value} {x y z : Nat × TypeId × Array Value}

theorem Bs.nil (w : World) : Bs w [] w := ⟨fun x hx => (by cases hx), List.Pairwise.nil, Below.refl _ _⟩
theorem Bs.bel (h : Bs w l W) : Below w.heap.size w W := h.2.2
theorem Bs.b0 (h : Bs w ((b, T, cs) :: l) W) : Blk W b T cs := (h.1 (b, T, cs) (by simp)).2
theorem Bs.b1 (h : Bs w (x :: (b, T, cs) :: l) W) : Blk W b T cs := (h.1 (b, T, cs) (by simp)).2
theorem Bs.b2 (h : Bs w (x :: y :: (b, T, cs) :: l) W) : Blk W b T cs := (h.1 (b, T, cs) (by simp)).2
theorem Bs.b3 (h : Bs w (x :: y :: z :: (b, T, cs) :: l) W) : Blk W b T cs := (h.1 (b, T, cs) (by simp)).2
theorem Bs.b4 {u : Nat × TypeId × Array Value} (h : Bs w (x :: y :: z :: u :: (b, T, cs) :: l) W) : Blk W b T cs := (h.1 (b, T, cs) (by simp)).2
theorem Bs.g0 (h : Bs w ((b, T, cs) :: l) W) : w.heap.size ≤ b := (h.1 (b, T, cs) (by simp)).1
theorem Bs.next (h : Bs w l W) (hb : Below W.heap.size W W') : Bs w l W' := ⟨fun x hx => ⟨(h.1 x hx).1, (h.1 x hx).2.next hb⟩, h.2.1, h.2.2.trans (hb.mono h.2.2.size)⟩
theorem Bs.tl (h : Bs w (x :: l) W) : Bs w l W := ⟨fun y hy => h.1 y (List.mem_cons_of_mem _ hy), (List.pairwise_cons.1 h.2.1).2, h.2.2⟩
theorem Bs.alloc (h : Bs w l W) (T : TypeId) (cs : Array Value) : Bs w ((W.heap.size, T, cs) :: l) (W.alloc (.cells cs T)) :=
  ⟨fun y hy => by
    rcases List.mem_cons.1 hy with rfl | hy
    · exact ⟨h.2.2.size, Blk.new W T cs⟩
    · exact ⟨(h.1 y hy).1, (h.1 y hy).2.alloc _⟩, List.pairwise_cons.2 ⟨fun y hy e => by have := (h.1 y hy).2.lt; simp only at e; omega, h.2.1⟩, h.2.2.alloc h.2.2.size _⟩
theorem Bs.repl (h : Bs w ((b, T, cs) :: l) W) (hr : Repl W W' b T cs') (hb : Below b W W') : Bs w ((b, T, cs') :: l) W' :=
  ⟨fun y hy => by
    rcases List.mem_cons.1 hy with rfl | hy
    · exact ⟨h.g0, hr.here⟩
    · have hne : y.1 ≠ b := ((List.pairwise_cons.1 h.2.1).1 y hy).symm
      exact ⟨(h.1 y (List.mem_cons_of_mem _ hy)).1, (hr.far _ hne).trans (h.1 y (List.mem_cons_of_mem _ hy)).2⟩, List.pairwise_cons.2 ⟨(List.pairwise_cons.1 h.2.1).1, (List.pairwise_cons.1 h.2.1).2⟩, h.2.2.trans (hb.mono h.g0)⟩
theorem Bs.sw1 (h : Bs w (x :: y :: l) W) : Bs w (y :: x :: l) W :=
  ⟨fun u hu => h.1 u (by simp only [List.mem_cons] at hu ⊢; rcases hu with rfl | rfl | hu <;> simp [*]), by
    have h2 := h.2.1
    simp only [List.pairwise_cons, List.forall_mem_cons] at h2 ⊢
    exact ⟨⟨fun e => h2.1.1 e.symm, h2.2.1⟩, h2.1.2, h2.2.2⟩, h.2.2⟩
theorem Bs.sw2 (h : Bs w (x :: y :: z :: l) W) : Bs w (z :: x :: y :: l) W :=
  ⟨fun u hu => h.1 u (by simp only [List.mem_cons] at hu ⊢; rcases hu with rfl | rfl | rfl | hu <;> simp [*]), by
    have h2 := h.2.1
    simp only [List.pairwise_cons, List.forall_mem_cons] at h2 ⊢
    exact ⟨⟨fun e => h2.1.2.1 e.symm, fun e => h2.2.1.1 e.symm, h2.2.2.1⟩, ⟨h2.1.1, h2.1.2.2⟩, h2.2.1.2, h2.2.2.2⟩, h.2.2⟩
theorem Bs.only (h : Bs w l W) (ho : Only [] W W') : Bs w l W' := h.next ho.below0
/-- Behind a region that stored into the first block alone. -/
theorem Bs.mix (h : Bs w ((b, T, cs) :: l) W) (ho : Only [b] W W') (hn : Blk W' b T cs') : Bs w ((b, T, cs') :: l) W' :=
  ⟨fun y hy => by
    rcases List.mem_cons.1 hy with rfl | hy
    · exact ⟨h.g0, hn⟩
    · have hne : y.1 ≠ b := ((List.pairwise_cons.1 h.2.1).1 y hy).symm
      exact ⟨(h.1 y (List.mem_cons_of_mem _ hy)).1, ho.blk (h.1 y (List.mem_cons_of_mem _ hy)).2 (by simpa using hne)⟩, List.pairwise_cons.2 ⟨(List.pairwise_cons.1 h.2.1).1, (List.pairwise_cons.1 h.2.1).2⟩,
    h.2.2.trans ((ho.below (B := w.heap.size) h.2.2.size (by simpa using h.g0)))⟩
/-- Behind a region that made a box. -/
theorem Bs.made (h : Bs w l W) (ho : Only [] W W') (hge : W.heap.size ≤ b) (hn : Blk W' b T cs') : Bs w ((b, T, cs') :: l) W' :=
  ⟨fun y hy => by
    rcases List.mem_cons.1 hy with rfl | hy
    · exact ⟨by have := h.2.2.size; simp only; omega, hn⟩
    · exact (h.next ho.below0).1 y hy, List.pairwise_cons.2 ⟨fun y hy e => by have := (h.1 y hy).2.lt; simp only at e; omega, h.2.1⟩, h.2.2.trans (ho.below0.mono h.2.2.size)⟩
theorem Bs.s0 (h : Bs w ((b, T, cs) :: l) W) (j : Nat) (v : Value) : Bs w ((b, T, cs.setIfInBounds j v) :: l) (W.setCell ⟨b, j, none⟩ v) :=
  h.repl (Repl.set h.b0 j v) ((Below.refl _ _).setCell (p := ⟨b, j, none⟩) (Nat.le_refl _) v)
end

theorem Bs.start2 (w : World) (T U : TypeId) (x y : Array Value) : Bs w [(w.heap.size + 1, U, y), (w.heap.size, T, x)] ((w.alloc (.cells x T)).alloc (.cells y U)) := by
  have := ((Bs.nil w).alloc T x).alloc U y
  simpa using this
theorem Bs.start3 (w : World) (T U V : TypeId) (x y z : Array Value) : Bs w [(w.heap.size + 1 + 1, V, z), (w.heap.size + 1, U, y), (w.heap.size, T, x)] (((w.alloc (.cells x T)).alloc (.cells y U)).alloc (.cells z V)) := by
  have := (((Bs.nil w).alloc T x).alloc U y).alloc V z
  simpa using this

theorem put13_below {w W : World} {B g : Nat} (h : Below B w W) (hg : B ≤ g) (v0 v1 v2 v3 v4 v5 v6 v7 v8 v9 v10 v11 v12 : Value) : Below B w (put13 W g v0 v1 v2 v3 v4 v5 v6 v7 v8 v9 v10 v11 v12) := by
  unfold put13
  exact ((((((((((((h.setCell (p := ⟨g, 0, none⟩) hg v0).setCell (p := ⟨g, 1, none⟩) hg v1).setCell (p := ⟨g, 2, none⟩) hg v2).setCell (p := ⟨g, 3, none⟩) hg v3).setCell (p := ⟨g, 4, none⟩) hg v4).setCell (p := ⟨g, 5, none⟩) hg v5).setCell (p := ⟨g, 6, none⟩) hg v6).setCell (p := ⟨g, 7, none⟩) hg v7).setCell (p := ⟨g, 8, none⟩) hg v8).setCell (p := ⟨g, 9, none⟩) hg v9).setCell (p := ⟨g, 10, none⟩) hg v10).setCell (p := ⟨g, 11, none⟩) hg v11).setCell (p := ⟨g, 12, none⟩) hg v12
theorem Bs.p0 {w W : World} {b : Nat} {T : TypeId} {l : List (Nat × TypeId × Array Value)} {u0 u1 u2 u3 u4 u5 u6 u7 u8 u9 u10 u11 u12 : Value} (h : Bs w ((b, T, #[u0, u1, u2, u3, u4, u5, u6, u7, u8, u9, u10, u11, u12]) :: l) W) (v0 v1 v2 v3 v4 v5 v6 v7 v8 v9 v10 v11 v12 : Value) : Bs w ((b, T, #[v0, v1, v2, v3, v4, v5, v6, v7, v8, v9, v10, v11, v12]) :: l) (put13 W b v0 v1 v2 v3 v4 v5 v6 v7 v8 v9 v10 v11 v12) :=
  h.repl (put13_repl h.b0 v0 v1 v2 v3 v4 v5 v6 v7 v8 v9 v10 v11 v12) (put13_below (Below.refl _ _) (Nat.le_refl _) v0 v1 v2 v3 v4 v5 v6 v7 v8 v9 v10 v11 v12)
end Go.Proofs.YtfnamfkjbkhgeaaGreatDoor

namespace Go.Proofs.YtfnamfkjbkhgeaaGreatDoor

open Go Go.RowKit

def newK : CK := ⟨0, false, false, 1, 1, 4, 4, 0, 2, 0⟩
theorem cIsoNew_any (w : World) : Calls Tryz.prog 98 #[] w fun e w' => e = .returned (.agg #[.int .i64 1, .int .i64 1, .int .i64 4, .int .i64 4, .int .i64 0, .int .i64 2, .int .i64 0]) ∧ Below w.heap.size w w' := by
  go_enter Tryz.func98, Tryz.ntmps98
  go_wp2_with fail
  exact bodyPost_ret (v := .agg #[.int .i64 1, .int .i64 1, .int .i64 4, .int .i64 4, .int .i64 0, .int .i64 2, .int .i64 0]) (by simp [results, Tryz.results98, go_sem]) rfl ⟨rfl, (Below.refl _ _).alloc (Nat.le_refl _) _⟩

set_option maxRecDepth 100000 in
set_option maxHeartbeats 8000000 in
theorem cursNew_any (w : World) : Calls Tryz.prog 60 #[] w fun e w' => e = .returned (uV 0 0 false newK) ∧ Below w.heap.size w w' := by
  have HN := Lib.hid (fun W => cIsoNew_any W)
  have HK := Lib.hid ((Bs.nil w).alloc 40 zU)
  unfold uV newK
  go_enter Tryz.func60, Tryz.ntmps60
  go_wp2_with fail
  refine (HN.out _).mono ?_
  rintro e w1 ⟨rfl, hb1⟩
  have HK1 := Lib.hid (HK.out.next hb1)
  clear hb1 HK
  obtain ⟨z0, z1, z2, z3, z4, z5, z6, z7, z8, z9, z10, z11, z12⟩ := fro13 HK1.out.b0
  obtain ⟨c0, c1, c2, c3, c4, c5, c6, c7, c8, c9, c10, c11, c12⟩ := cur13 HK1.out.b0
  go_wp2_with fail
  have HK2 := Bs.p0 HK1.out (.int .i64 0) (.int .i64 0) (.int .u8 0) (.bool false) (.bool false) (.bool false) (.int .i64 1) (.int .i64 1) (.int .i64 4) (.int .i64 4) (.int .i64 0) (.int .i64 2) (.int .i64 0)
  unfold put13 at HK2
  obtain ⟨e0, e1, e2, e3, e4, e5, e6, e7, e8, e9, e10, e11, e12⟩ := cur13 HK2.b0
  exact bodyPost_ret (v := .agg #[.int .i64 0, .int .i64 0, .int .u8 0, .bool false, .bool false, .bool false, .int .i64 1, .int .i64 1, .int .i64 4, .int .i64 4, .int .i64 0, .int .i64 2, .int .i64 0]) (by simp [results, Tryz.results60, go_sem, e0, e1, e2, e3, e4, e5, e6, e7, e8, e9, e10, e11, e12]) rfl ⟨rfl, HK2.bel⟩

set_option maxHeartbeats 2000000 in
theorem iOwn_any (K : CK) (w : World) : Calls Tryz.prog 62 #[.agg #[.int .i64 K.a, .int .i64 K.b, .int .i64 K.c, .int .i64 K.d, .int .i64 K.l, .int .i64 K.r, .int .i64 K.s]] w fun e w' => e = .returned (.agg #[.int .i64 K.a, .int .i64 K.b, .int .i64 K.c, .int .i64 K.d, .int .i64 K.l, .int .i64 K.r, .int .i64 K.s]) ∧ Below w.heap.size w w' := by
  go_enter Tryz.func62, Tryz.ntmps62
  go_wp2_with fail
  exact bodyPost_ret (v := .agg #[.int .i64 K.a, .int .i64 K.b, .int .i64 K.c, .int .i64 K.d, .int .i64 K.l, .int .i64 K.r, .int .i64 K.s]) (by simp [results, Tryz.results62, go_sem]) rfl ⟨rfl, ((Below.refl _ _).alloc (Nat.le_refl _) _).alloc (by simp) _⟩
set_option maxHeartbeats 2000000 in
theorem iTold_any (K : CK) (w : World) : Calls Tryz.prog 86 #[.agg #[.int .i64 K.a, .int .i64 K.b, .int .i64 K.c, .int .i64 K.d, .int .i64 K.l, .int .i64 K.r, .int .i64 K.s]] w fun e w' => e = .returned (.agg #[.int .i64 K.a, .int .i64 K.b, .int .i64 K.c, .int .i64 K.d, .int .i64 K.l, .int .i64 K.r, .int .i64 K.s]) ∧ Below w.heap.size w w' := by
  go_enter Tryz.func86, Tryz.ntmps86
  go_wp2_with fail
  exact bodyPost_ret (v := .agg #[.int .i64 K.a, .int .i64 K.b, .int .i64 K.c, .int .i64 K.d, .int .i64 K.l, .int .i64 K.r, .int .i64 K.s]) (by simp [results, Tryz.results86, go_sem]) rfl ⟨rfl, ((Below.refl _ _).alloc (Nat.le_refl _) _).alloc (by simp) _⟩
set_option maxRecDepth 100000 in
set_option maxHeartbeats 8000000 in
theorem cOwn_any (r c : Int) (wp : Bool) (K : CK) (w : World) : Calls Tryz.prog 22 #[uV r c wp K] w fun e w' => e = .returned (uV r c wp K) ∧ Below w.heap.size w w' := by
  have HN := Lib.hid (fun W => iOwn_any K W)
  have HS := Lib.hid (Bs.start2 w 27 40 (uC r c wp K) zU)
  unfold uV
  go_enter Tryz.func22, Tryz.ntmps22
  go_wp2_with fail
  refine world_gen (fun W => Bs w [(w.heap.size + 1, 40, zU), (w.heap.size, 27, uC r c wp K)] W) HS.out ?_
  intro W HW
  replace HW := Lib.hid HW
  have HC := Lib.hid (fun w' (h : Only [w.heap.size + 1] W w') => cur13 (h.blk HW.out.b1 (by simp)))
  clear HS
  refine wp_region_mix_lit (by kernel_rfl) [(15, .call (.agg #[.int .i64 K.a, .int .i64 K.b, .int .i64 K.c, .int .i64 K.d, .int .i64 K.l, .int .i64 K.r, .int .i64 K.s])), (17, .store (w.heap.size + 1) 40 zU (fun _ => uC r c wp K))] (by kernel_rfl) (by kernel_rfl) (by kernel_rfl) (by rfl) (by simp [apartK] <;> omega) (by simp [startK]; exact HW.out.b0) (by simp [stabK]) (⟨fun _ => undef, by simp [okK]⟩) (fun β hβ => ?_)
  repeat (
    refine lex_val (v := ?_) rfl rfl (fun w' hf => ?_) ?_
    rotate_left
    · obtain ⟨c0, c1, c2, c3, c4, c5, c6, c7, c8, c9, c10, c11, c12⟩ := HC.out w' hf.only; go_simp
      try rfl
    try simp only [Act.put, List.setIfInBounds_toArray, List.set_cons_zero, List.set_cons_succ])
  refine lex_call (f := 62) (args := ?_) rfl rfl (fun w' hf => ?_) (fun w' hf => ?_) ?_
  rotate_left
  · go_simp
    try rfl
  · exact HN.out w'
  try simp only [Act.put, List.setIfInBounds_toArray, List.set_cons_zero, List.set_cons_succ]
  repeat (
    refine lex_val (v := ?_) rfl rfl (fun w' hf => ?_) ?_
    rotate_left
    · go_simp
      try rfl
    try simp only [Act.put, List.setIfInBounds_toArray, List.set_cons_zero, List.set_cons_succ])
  refine lex_store rfl rfl (fun w' hf hB => ⟨_, ?_, put13_repl hB (.int .i64 r) (.int .i64 c) (.int .u8 K.rd) (.bool K.kp) (.bool wp) (.bool K.og) (.int .i64 K.a) (.int .i64 K.b) (.int .i64 K.c) (.int .i64 K.d) (.int .i64 K.l) (.int .i64 K.r) (.int .i64 K.s)⟩) ?_
  · obtain ⟨z0, z1, z2, z3, z4, z5, z6, z7, z8, z9, z10, z11, z12⟩ := fro13 hB
    obtain ⟨c0, c1, c2, c3, c4, c5, c6, c7, c8, c9, c10, c11, c12⟩ := cur13 hB
    unfold put13
    go_simp
  try simp only [Act.put]
  refine lex_nil fun w1 he => ?_
  have hb9 : Blk w1 (w.heap.size + 1) 40 (uC r c wp K) := he.facts 17
  have HK1 := Lib.hid (Bs.mix HW.out he.only hb9)
  clear he hb9 HW HC hβ
  obtain ⟨e0, e1, e2, e3, e4, e5, e6, e7, e8, e9, e10, e11, e12⟩ := cur13 HK1.out.b0
  go_wp2_with fail
  exact bodyPost_ret (v := .agg #[.int .i64 r, .int .i64 c, .int .u8 K.rd, .bool K.kp, .bool wp, .bool K.og, .int .i64 K.a, .int .i64 K.b, .int .i64 K.c, .int .i64 K.d, .int .i64 K.l, .int .i64 K.r, .int .i64 K.s]) (by simp [results, Tryz.results22, go_sem, e0, e1, e2, e3, e4, e5, e6, e7, e8, e9, e10, e11, e12]) rfl ⟨rfl, HK1.out.bel⟩
set_option maxRecDepth 100000 in
set_option maxHeartbeats 8000000 in
theorem cTold_any (r c : Int) (wp : Bool) (K : CK) (w : World) : Calls Tryz.prog 41 #[uV r c wp K] w fun e w' => e = .returned (uV r c wp K) ∧ Below w.heap.size w w' := by
  have HN := Lib.hid (fun W => iTold_any K W)
  have HS := Lib.hid (Bs.start2 w 40 27 (uC r c wp K) zU)
  unfold uV
  go_enter Tryz.func41, Tryz.ntmps41
  go_wp2_with fail
  refine world_gen (fun W => Bs w [(w.heap.size + 1, 27, zU), (w.heap.size, 40, uC r c wp K)] W) HS.out ?_
  intro W HW
  replace HW := Lib.hid HW
  have HC := Lib.hid (fun w' (h : Only [w.heap.size + 1] W w') => cur13 (h.blk HW.out.b1 (by simp)))
  clear HS
  refine wp_region_mix_lit (by kernel_rfl) [(16, .call (.agg #[.int .i64 K.a, .int .i64 K.b, .int .i64 K.c, .int .i64 K.d, .int .i64 K.l, .int .i64 K.r, .int .i64 K.s])), (18, .store (w.heap.size + 1) 27 zU (fun _ => uC r c wp K))] (by kernel_rfl) (by kernel_rfl) (by kernel_rfl) (by rfl) (by simp [apartK] <;> omega) (by simp [startK]; exact HW.out.b0) (by simp [stabK]) (⟨fun _ => undef, by simp [okK]⟩) (fun β hβ => ?_)
  repeat (
    refine lex_val (v := ?_) rfl rfl (fun w' hf => ?_) ?_
    rotate_left
    · obtain ⟨c0, c1, c2, c3, c4, c5, c6, c7, c8, c9, c10, c11, c12⟩ := HC.out w' hf.only; go_simp
      try rfl
    try simp only [Act.put, List.setIfInBounds_toArray, List.set_cons_zero, List.set_cons_succ])
  refine lex_call (f := 86) (args := ?_) rfl rfl (fun w' hf => ?_) (fun w' hf => ?_) ?_
  rotate_left
  · go_simp
    try rfl
  · exact HN.out w'
  try simp only [Act.put, List.setIfInBounds_toArray, List.set_cons_zero, List.set_cons_succ]
  repeat (
    refine lex_val (v := ?_) rfl rfl (fun w' hf => ?_) ?_
    rotate_left
    · go_simp
      try rfl
    try simp only [Act.put, List.setIfInBounds_toArray, List.set_cons_zero, List.set_cons_succ])
  refine lex_store rfl rfl (fun w' hf hB => ⟨_, ?_, put13_repl hB (.int .i64 r) (.int .i64 c) (.int .u8 K.rd) (.bool K.kp) (.bool wp) (.bool K.og) (.int .i64 K.a) (.int .i64 K.b) (.int .i64 K.c) (.int .i64 K.d) (.int .i64 K.l) (.int .i64 K.r) (.int .i64 K.s)⟩) ?_
  · obtain ⟨z0, z1, z2, z3, z4, z5, z6, z7, z8, z9, z10, z11, z12⟩ := fro13 hB
    obtain ⟨c0, c1, c2, c3, c4, c5, c6, c7, c8, c9, c10, c11, c12⟩ := cur13 hB
    unfold put13
    go_simp
  try simp only [Act.put]
  refine lex_nil fun w1 he => ?_
  have hb9 : Blk w1 (w.heap.size + 1) 27 (uC r c wp K) := he.facts 18
  have HK1 := Lib.hid (Bs.mix HW.out he.only hb9)
  clear he hb9 HW HC hβ
  obtain ⟨e0, e1, e2, e3, e4, e5, e6, e7, e8, e9, e10, e11, e12⟩ := cur13 HK1.out.b0
  go_wp2_with fail
  exact bodyPost_ret (v := .agg #[.int .i64 r, .int .i64 c, .int .u8 K.rd, .bool K.kp, .bool wp, .bool K.og, .int .i64 K.a, .int .i64 K.b, .int .i64 K.c, .int .i64 K.d, .int .i64 K.l, .int .i64 K.r, .int .i64 K.s]) (by simp [results, Tryz.results41, go_sem, e0, e1, e2, e3, e4, e5, e6, e7, e8, e9, e10, e11, e12]) rfl ⟨rfl, HK1.out.bel⟩
end Go.Proofs.YtfnamfkjbkhgeaaGreatDoor

namespace Go.Proofs.YtfnamfkjbkhgeaaGreatDoor

open Go Go.RowKit



end Go.Proofs.YtfnamfkjbkhgeaaGreatDoor

namespace Go.Proofs.YtfnamfkjbkhgeaaGreatDoor

open Go Go.RowKit

def fitC (c width : Int) : Int := clipP c 0 (max width 1 - 1)
def fitW (c width : Int) (wp : Bool) : Bool := if fitC c width = c then wp else false
theorem Bs.start2' (w : World) (T U : TypeId) (x y : Array Value) : Bs w [(w.heap.size, T, x), (w.heap.size + 1, U, y)] ((w.alloc (.cells x T)).alloc (.cells y U)) := (Bs.start2 w T U x y).sw1
def fewP (at_ n first margin : Int) : Int := at_ - clipP n 0 (at_ - if margin ≤ at_ then margin else first)
def curMoreP (at_ n last margin : Int) : Int := at_ + clipP n 0 ((if at_ ≤ margin then margin else last) - at_)
def nearC (first below n : Int) : Int := if n < 0 then first else if below - first ≤ n then below - 1 else first + n
def In2 (n : Int) : Prop := 0 ≤ n ∧ n ≤ 2000



end Go.Proofs.YtfnamfkjbkhgeaaGreatDoor

namespace Go.Proofs.YtfnamfkjbkhgeaaGreatDoor

open Go Go.RowKit

theorem cur_meet_eq (t l b r t' l' b' r' : Int) : meetT t l b r t' l' b' r' = refMeetT t l b r t' l' b' r' := by
  unfold meetT refMeetT
  have h : ∀ x : Bool, (x = true → bEm (max t t') (max l l') (min b b') (min r r') = true) → ((x || bEm (max t t') (max l l') (min b b') (min r r')) = bEm (max t t') (max l l') (min b b') (min r r')) := by
    intro x hx
    cases x
    · simp
    · rw [hx rfl]; rfl
  rw [h (bEm t' l' b' r') (by unfold bEm emB; simp; omega), h (bEm t l b r) (by unfold bEm emB; simp; omega)]
/-- What is known of a frame that may be stepped through: how great the page is, and where the margins lie. -/
structure FrOk (f : Fr) (H W it il ib ir : Int) : Prop where
  eH : max f.pb 1 = H
  eW : max f.pr 1 = W
  hH : 1 ≤ H ∧ H ≤ 60000
  hW : 1 ≤ W ∧ W ≤ 60000
  inn : ∃ m0 m1 m2 m3, meetT f.mt f.ml f.mb f.mr 0 0 H W = (m0, m1, m2, m3) ∧ ((bEm m0 m1 m2 m3 = true ∧ it = 0 ∧ il = 0 ∧ ib = H ∧ ir = W) ∨ (bEm m0 m1 m2 m3 = false ∧ it = m0 ∧ il = m1 ∧ ib = m2 ∧ ir = m3))
  hi : 0 ≤ it ∧ it < ib ∧ ib ≤ H
  hj : 0 ≤ il ∧ il < ir ∧ ir ≤ W
theorem fr_ok (f : Fr) (h1 : f.pb ≤ 60000) (h2 : f.pr ≤ 60000) : ∃ H W it il ib ir, FrOk f H W it il ib ir := by
  obtain ⟨m, hm⟩ : ∃ m, m = meetT f.mt f.ml f.mb f.mr 0 0 (max f.pb 1) (max f.pr 1) := ⟨_, rfl⟩
  obtain ⟨m0, m1, m2, m3⟩ := m
  cases he : bEm m0 m1 m2 m3
  · have hb : m0 < m2 ∧ m1 < m3 := by unfold bEm emB at he; simp at he; omega
    have hx : 0 ≤ m0 ∧ m2 ≤ max f.pb 1 ∧ 0 ≤ m1 ∧ m3 ≤ max f.pr 1 := by
      unfold meetT at hm
      split at hm
      · simp only [Prod.mk.injEq] at hm; omega
      · simp only [Prod.mk.injEq] at hm; omega
    exact ⟨_, _, m0, m1, m2, m3, rfl, rfl, by omega, by omega, ⟨m0, m1, m2, m3, hm.symm, .inr ⟨he, rfl, rfl, rfl, rfl⟩⟩, by omega, by omega⟩
  · exact ⟨_, _, 0, 0, _, _, rfl, rfl, by omega, by omega, ⟨m0, m1, m2, m3, hm.symm, .inl ⟨he, rfl, rfl, rfl, rfl⟩⟩, by omega, by omega⟩
theorem Bs.q0 {w W : World} {b : Nat} {T : TypeId} {l : List (Nat × TypeId × Array Value)} {u0 u1 u2 u3 : Value} (h : Bs w ((b, T, #[u0, u1, u2, u3]) :: l) W) (v0 v1 v2 v3 : Value) : Bs w ((b, T, #[v0, v1, v2, v3]) :: l) ((((W.setCell ⟨b, 0, none⟩ v0).setCell ⟨b, 1, none⟩ v1).setCell ⟨b, 2, none⟩ v2).setCell ⟨b, 3, none⟩ v3) :=
  (((h.s0 0 v0).s0 1 v1).s0 2 v2).s0 3 v3
set_option maxRecDepth 100000 in
set_option maxHeartbeats 8000000 in
theorem fWhole_any {f : Fr} {H W it il ib ir : Int} (h : FrOk f H W it il ib ir) (w : World) : Calls Tryz.prog 63 #[fV f] w fun e w' => e = .returned (bV 0 0 H W) ∧ Below w.heap.size w w' := by
  have HC := Lib.hid (fun x y V => whole_any x y V)
  have HK := Lib.hid (Bs.start2' w 41 29 (fC f) (bC 0 0 0 0))
  have hH := h.hH; have hW := h.hW
  have e1 : (f.pb < 1 ∧ H = 1) ∨ (¬ f.pb < 1 ∧ H = f.pb) := by have := h.eH; omega
  have e2 : (f.pr < 1 ∧ W = 1) ∨ (¬ f.pr < 1 ∧ W = f.pr) := by have := h.eW; omega
  have HC2 : Hid (∀ V, Calls Tryz.prog 59 #[.int .i64 H, .int .i64 W] V fun e w' => e = .returned (bV 0 0 H W) ∧ Below V.heap.size V w') := Lib.hid (fun V => by
    have := HC.out H W V
    rwa [show max H 0 = H from by omega, show max W 0 = W from by omega] at this)
  clear HC hH hW h
  unfold fV bV at *
  rcases e1 with ⟨e1, rfl⟩ | ⟨e1, rfl⟩ <;> rcases e2 with ⟨e2, rfl⟩ | ⟨e2, rfl⟩
  all_goals
    go_enter Tryz.func63, Tryz.ntmps63
    go_wp2_with fail
    refine (HC2.out _).mono ?_
    rintro e w1 ⟨rfl, hb1⟩
    have HK1 := Lib.hid (HK.out.next hb1).sw1
    clear hb1
    obtain ⟨c0, c1, c2, c3, z0, z1, z2, z3⟩ := blk4 HK1.out.b0
    have HK2 := Lib.hid (fun u v => HK1.out.q0 (.int .i64 0) (.int .i64 0) (.int .i64 u) (.int .i64 v))
    go_wp2_with fail
    have e0 := fun u v => (blk4 (HK2.out u v).b0).1; have e1 := fun u v => (blk4 (HK2.out u v).b0).2.1; have e2 := fun u v => (blk4 (HK2.out u v).b0).2.2.1; have e3 := fun u v => (blk4 (HK2.out u v).b0).2.2.2.1
    exact bodyPost_ret (v := .agg #[.int .i64 0, .int .i64 0, .int .i64 _, .int .i64 _]) (by simp [results, Tryz.results63, go_sem, e0, e1, e2, e3]; try exact ⟨rfl, rfl⟩) rfl ⟨rfl, (HK2.out _ _).bel⟩
set_option maxRecDepth 100000 in
set_option maxHeartbeats 8000000 in
theorem refWholeC_any {f : Fr} {H W it il ib ir : Int} (h : FrOk f H W it il ib ir) (w : World) : Calls Tryz.prog 42 #[fV f] w fun e w' => e = .returned (bV 0 0 H W) ∧ Below w.heap.size w w' := by
  have e1 : (1 < f.pb ∧ H = f.pb) ∨ (¬ 1 < f.pb ∧ H = 1) := by have := h.eH; omega
  have e2 : (1 < f.pr ∧ W = f.pr) ∨ (¬ 1 < f.pr ∧ W = 1) := by have := h.eW; omega
  clear h
  unfold fV bV at *
  rcases e1 with ⟨e1, rfl⟩ | ⟨e1, rfl⟩ <;> rcases e2 with ⟨e2, rfl⟩ | ⟨e2, rfl⟩
  all_goals
    go_enter Tryz.func42, Tryz.ntmps42
    go_wp2_with fail
    exact bodyPost_ret (v := .agg #[.int .i64 0, .int .i64 0, .int .i64 _, .int .i64 _]) (by simp [results, Tryz.results42, go_sem]; try exact ⟨rfl, rfl⟩) rfl ⟨rfl, by go_grown⟩
set_option maxRecDepth 100000 in
set_option maxHeartbeats 8000000 in
theorem fInner_any {f : Fr} {H W it il ib ir : Int} (h : FrOk f H W it il ib ir) (w : World) : Calls Tryz.prog 64 #[fV f] w fun e w' => e = .returned (bV it il ib ir) ∧ Below w.heap.size w w' := by
  have HWh := Lib.hid (fun V => fWhole_any h V)
  have HK := Lib.hid (Bs.start2' w 41 29 (fC f) (bC 0 0 0 0))
  obtain ⟨m0, m1, m2, m3, hm, hx⟩ := h.inn
  have HM := Lib.hid (fun V => meet_any f.mt f.ml f.mb f.mr 0 0 H W V)
  rw [hm] at HM
  simp only at HM
  have HE := Lib.hid (fun V => empty_any m0 m1 m2 m3 V)
  clear hm h
  generalize bEm m0 m1 m2 m3 = em at *
  unfold fV bV at *
  rcases hx with ⟨rfl, rfl, rfl, rfl, rfl⟩ | ⟨rfl, rfl, rfl, rfl, rfl⟩
  · skip
    go_enter Tryz.func64, Tryz.ntmps64
    go_wp2_with fail
    refine (HWh.out _).mono ?_
    rintro e w1 ⟨rfl, hb1⟩
    have HK1 := Lib.hid (HK.out.next hb1)
    clear hb1
    obtain ⟨a0, a1, a2, a3, a4, a5, a6, a7⟩ := fra8 HK1.out.b0
    have hz : w.heap.size < w1.heap.size := HK1.out.b0.lt
    go_wp2_with fail
    have HK2 := Lib.hid (HK1.out.alloc 29 #[.int .i64 0, .int .i64 0, .int .i64 ib, .int .i64 ir])
    refine (HM.out _).mono ?_
    rintro e w2 ⟨rfl, hb2⟩
    have HK3 := Lib.hid (HK2.out.next hb2)
    clear hb2 hz a0 a1 a2 a3 a4 a5 a6 a7
    go_wp2_with fail
    have HK4 := Lib.hid (HK3.out.alloc 29 #[.int .i64 m0, .int .i64 m1, .int .i64 m2, .int .i64 m3])
    refine (HE.out _).mono ?_
    rintro e w3 ⟨rfl, hb3⟩
    have HK5 := Lib.hid (HK4.out.next hb3)
    clear hb3
    obtain ⟨a0, a1, a2, a3, _⟩ := blk4 HK5.out.b0
    obtain ⟨b0, b1, b2, b3, _⟩ := blk4 HK5.out.b1
    obtain ⟨c0, c1, c2, c3, z0, z1, z2, z3⟩ := blk4 HK5.out.b3
    have HK6 := HK5.out.tl.tl.tl.q0 (.int .i64 0) (.int .i64 0) (.int .i64 ib) (.int .i64 ir)
    go_wp2_with fail
    obtain ⟨e0, e1, e2, e3, _⟩ := blk4 HK6.b0
    exact bodyPost_ret (v := .agg #[.int .i64 0, .int .i64 0, .int .i64 ib, .int .i64 ir]) (by simp [results, Tryz.results64, go_sem, e0, e1, e2, e3]) rfl ⟨rfl, HK6.bel⟩
  · skip
    go_enter Tryz.func64, Tryz.ntmps64
    go_wp2_with fail
    refine (HWh.out _).mono ?_
    rintro e w1 ⟨rfl, hb1⟩
    have HK1 := Lib.hid (HK.out.next hb1)
    clear hb1
    obtain ⟨a0, a1, a2, a3, a4, a5, a6, a7⟩ := fra8 HK1.out.b0
    have hz : w.heap.size < w1.heap.size := HK1.out.b0.lt
    go_wp2_with fail
    have HK2 := Lib.hid (HK1.out.alloc 29 #[.int .i64 0, .int .i64 0, .int .i64 H, .int .i64 W])
    refine (HM.out _).mono ?_
    rintro e w2 ⟨rfl, hb2⟩
    have HK3 := Lib.hid (HK2.out.next hb2)
    clear hb2 hz a0 a1 a2 a3 a4 a5 a6 a7
    go_wp2_with fail
    have HK4 := Lib.hid (HK3.out.alloc 29 #[.int .i64 it, .int .i64 il, .int .i64 ib, .int .i64 ir])
    refine (HE.out _).mono ?_
    rintro e w3 ⟨rfl, hb3⟩
    have HK5 := Lib.hid (HK4.out.next hb3)
    clear hb3
    obtain ⟨a0, a1, a2, a3, _⟩ := blk4 HK5.out.b0
    obtain ⟨b0, b1, b2, b3, _⟩ := blk4 HK5.out.b1
    obtain ⟨c0, c1, c2, c3, z0, z1, z2, z3⟩ := blk4 HK5.out.b3
    have HK6 := HK5.out.tl.tl.tl.q0 (.int .i64 it) (.int .i64 il) (.int .i64 ib) (.int .i64 ir)
    go_wp2_with fail
    obtain ⟨e0, e1, e2, e3, _⟩ := blk4 HK6.b0
    exact bodyPost_ret (v := .agg #[.int .i64 it, .int .i64 il, .int .i64 ib, .int .i64 ir]) (by simp [results, Tryz.results64, go_sem, e0, e1, e2, e3]) rfl ⟨rfl, HK6.bel⟩
end Go.Proofs.YtfnamfkjbkhgeaaGreatDoor

namespace Go.Proofs.YtfnamfkjbkhgeaaGreatDoor

open Go Go.RowKit

def pick (og : Bool) (a b : Int) : Int := if og then a else b
def insB (H W it il ib ir r c : Int) : Bool := inBx it il ib ir (clipP r 0 (H - 1)) (clipP c 0 (W - 1))
set_option maxHeartbeats 2000000 in
theorem lFrame_any (f : Fr) (w : World) : Calls Tryz.prog 23 #[fV f] w fun e w' => e = .returned (fV f) ∧ Below w.heap.size w w' := by
  unfold fV
  go_enter Tryz.func23, Tryz.ntmps23
  go_wp2_with fail
  exact bodyPost_ret (v := .agg #[.int .i64 f.pt, .int .i64 f.pl, .int .i64 f.pb, .int .i64 f.pr, .int .i64 f.mt, .int .i64 f.ml, .int .i64 f.mb, .int .i64 f.mr]) (by simp [results, Tryz.results23, go_sem]) rfl ⟨rfl, ((Below.refl _ _).alloc (Nat.le_refl _) _).alloc (by simp) _⟩
def smF (f : Fr) : Bool := decide (f.pb ≤ 60000) && decide (f.pr ≤ 60000)

set_option maxRecDepth 100000 in
set_option maxHeartbeats 8000000 in
theorem refInnerC_any {f : Fr} {H W it il ib ir : Int} (h : FrOk f H W it il ib ir) (w : World) : Calls Tryz.prog 43 #[fV f] w fun e w' => e = .returned (bV it il ib ir) ∧ Below w.heap.size w w' := by
  have HWh := Lib.hid (fun V => refWholeC_any h V)
  have HK := Lib.hid (Bs.start2' w 31 29 (fC f) (bC 0 0 0 0))
  obtain ⟨m0, m1, m2, m3, hm, hx⟩ := h.inn
  have HM := Lib.hid (fun V => refMeet_any f.mt f.ml f.mb f.mr 0 0 H W V)
  rw [← cur_meet_eq, hm] at HM
  simp only at HM
  have HE := Lib.hid (fun V => refEmpty_any m0 m1 m2 m3 V)
  clear hm h
  generalize bEm m0 m1 m2 m3 = em at *
  unfold fV bV at *
  rcases hx with ⟨rfl, rfl, rfl, rfl, rfl⟩ | ⟨rfl, rfl, rfl, rfl, rfl⟩
  · skip
    go_enter Tryz.func43, Tryz.ntmps43
    go_wp2_with fail
    refine world_gen (fun V => Bs w [(w.heap.size, 31, fC f), (w.heap.size + 1, 29, bC 0 0 0 0)] V) HK.out ?_
    intro V HV
    replace HV := Lib.hid HV
    have HC := Lib.hid (fun w' (h : Only [] V w') => fra8 (h.blk HV.out.b0 (by simp)))
    clear HK
    refine wp_region_mix_lit (by kernel_rfl) [(3, .call (.agg #[.int .i64 0, .int .i64 0, .int .i64 ib, .int .i64 ir])), (4, .call (.agg #[.int .i64 m0, .int .i64 m1, .int .i64 m2, .int .i64 m3])), (5, .alloc 6 29 #[.int .i64 0, .int .i64 0, .int .i64 0, .int .i64 0] (fun _ => #[.int .i64 m0, .int .i64 m1, .int .i64 m2, .int .i64 m3])), (6, .init 5)] (by kernel_rfl) (by kernel_rfl) (by kernel_rfl) (by rfl) (by simp [apartK] <;> omega) (by simp [startK]) (by simp [stabK]) (⟨fun _ => .pointer (some ⟨V.heap.size, 0, none⟩), by simp [okK]⟩) (fun β hβ => ?_)
    repeat (
      refine lex_val (v := ?_) rfl rfl (fun w' hf => ?_) ?_
      rotate_left
      · obtain ⟨a0, a1, a2, a3, a4, a5, a6, a7⟩ := HC.out w' hf.only; go_simp
        try rfl
      try simp only [Act.put, List.setIfInBounds_toArray, List.set_cons_zero, List.set_cons_succ])
    refine lex_call (f := 42) (args := ?_) rfl rfl (fun w' hf => ?_) (fun w' hf => ?_) ?_
    rotate_left
    · go_simp
      try rfl
    · exact HWh.out w'
    try simp only [Act.put, List.setIfInBounds_toArray, List.set_cons_zero, List.set_cons_succ]
    refine lex_call (f := 87) (args := ?_) rfl rfl (fun w' hf => ?_) (fun w' hf => ?_) ?_
    rotate_left
    · go_simp
      try rfl
    · exact HM.out w'
    try simp only [Act.put, List.setIfInBounds_toArray, List.set_cons_zero, List.set_cons_succ]
    refine lex_alloc rfl rfl (fun w' => ?_) ?_
    · go_simp
    try simp only [Act.put, List.setIfInBounds_toArray, List.set_cons_zero, List.set_cons_succ]
    refine lex_init rfl rfl rfl (fun b w' hb hf hB => ⟨_, ?_, repl4 hB _ _ _ _⟩) ?_
    · have gB := blk4 hB
      go_simp
    try simp only [Act.put]
    refine lex_nil fun w1 he => ?_
    obtain ⟨b9, hb9, hge, hB9⟩ := he.facts 5
    have HK1 := Lib.hid (Bs.made HV.out he.only hge hB9)
    rw [hb9]
    clear hb9 he hβ hge hB9 HC HV
    obtain ⟨c0, c1, c2, c3, _⟩ := blk4 HK1.out.b0
    go_wp2_with fail
    refine (HE.out _).mono ?_
    rintro e w2 ⟨rfl, hb2⟩
    have HK2 := Lib.hid (HK1.out.next hb2)
    clear hb2 c0 c1 c2 c3 HK1
    obtain ⟨a0, a1, a2, a3, a4, a5, a6, a7⟩ := fra8 HK2.out.b1
    go_wp2_with fail
    refine (HWh.out _).mono ?_
    rintro e w3 ⟨rfl, hb3⟩
    have HK3 := Lib.hid (HK2.out.next hb3)
    clear hb3 a0 a1 a2 a3 a4 a5 a6 a7 HK2
    obtain ⟨c0, c1, c2, c3, z0, z1, z2, z3⟩ := blk4 HK3.out.b2
    have HK6 := HK3.out.tl.tl.q0 (.int .i64 0) (.int .i64 0) (.int .i64 ib) (.int .i64 ir)
    go_wp2_with fail
    obtain ⟨e0, e1, e2, e3, _⟩ := blk4 HK6.b0
    exact bodyPost_ret (v := .agg #[.int .i64 0, .int .i64 0, .int .i64 ib, .int .i64 ir]) (by simp [results, Tryz.results43, go_sem, e0, e1, e2, e3]) rfl ⟨rfl, HK6.bel⟩
  · skip
    go_enter Tryz.func43, Tryz.ntmps43
    go_wp2_with fail
    refine world_gen (fun V => Bs w [(w.heap.size, 31, fC f), (w.heap.size + 1, 29, bC 0 0 0 0)] V) HK.out ?_
    intro V HV
    replace HV := Lib.hid HV
    have HC := Lib.hid (fun w' (h : Only [] V w') => fra8 (h.blk HV.out.b0 (by simp)))
    clear HK
    refine wp_region_mix_lit (by kernel_rfl) [(3, .call (.agg #[.int .i64 0, .int .i64 0, .int .i64 H, .int .i64 W])), (4, .call (.agg #[.int .i64 it, .int .i64 il, .int .i64 ib, .int .i64 ir])), (5, .alloc 6 29 #[.int .i64 0, .int .i64 0, .int .i64 0, .int .i64 0] (fun _ => #[.int .i64 it, .int .i64 il, .int .i64 ib, .int .i64 ir])), (6, .init 5)] (by kernel_rfl) (by kernel_rfl) (by kernel_rfl) (by rfl) (by simp [apartK] <;> omega) (by simp [startK]) (by simp [stabK]) (⟨fun _ => .pointer (some ⟨V.heap.size, 0, none⟩), by simp [okK]⟩) (fun β hβ => ?_)
    repeat (
      refine lex_val (v := ?_) rfl rfl (fun w' hf => ?_) ?_
      rotate_left
      · obtain ⟨a0, a1, a2, a3, a4, a5, a6, a7⟩ := HC.out w' hf.only; go_simp
        try rfl
      try simp only [Act.put, List.setIfInBounds_toArray, List.set_cons_zero, List.set_cons_succ])
    refine lex_call (f := 42) (args := ?_) rfl rfl (fun w' hf => ?_) (fun w' hf => ?_) ?_
    rotate_left
    · go_simp
      try rfl
    · exact HWh.out w'
    try simp only [Act.put, List.setIfInBounds_toArray, List.set_cons_zero, List.set_cons_succ]
    refine lex_call (f := 87) (args := ?_) rfl rfl (fun w' hf => ?_) (fun w' hf => ?_) ?_
    rotate_left
    · go_simp
      try rfl
    · exact HM.out w'
    try simp only [Act.put, List.setIfInBounds_toArray, List.set_cons_zero, List.set_cons_succ]
    refine lex_alloc rfl rfl (fun w' => ?_) ?_
    · go_simp
    try simp only [Act.put, List.setIfInBounds_toArray, List.set_cons_zero, List.set_cons_succ]
    refine lex_init rfl rfl rfl (fun b w' hb hf hB => ⟨_, ?_, repl4 hB _ _ _ _⟩) ?_
    · have gB := blk4 hB
      go_simp
    try simp only [Act.put]
    refine lex_nil fun w1 he => ?_
    obtain ⟨b9, hb9, hge, hB9⟩ := he.facts 5
    have HK1 := Lib.hid (Bs.made HV.out he.only hge hB9)
    rw [hb9]
    clear hb9 he hβ hge hB9 HC HV
    obtain ⟨c0, c1, c2, c3, _⟩ := blk4 HK1.out.b0
    go_wp2_with fail
    refine (HE.out _).mono ?_
    rintro e w2 ⟨rfl, hb2⟩
    have HK2 := Lib.hid (HK1.out.next hb2)
    clear hb2 c0 c1 c2 c3 HK1
    obtain ⟨a0, a1, a2, a3, _⟩ := blk4 HK2.out.b0
    obtain ⟨c0, c1, c2, c3, z0, z1, z2, z3⟩ := blk4 HK2.out.b2
    have HK6 := HK2.out.tl.tl.q0 (.int .i64 it) (.int .i64 il) (.int .i64 ib) (.int .i64 ir)
    go_wp2_with fail
    obtain ⟨e0, e1, e2, e3, _⟩ := blk4 HK6.b0
    exact bodyPost_ret (v := .agg #[.int .i64 it, .int .i64 il, .int .i64 ib, .int .i64 ir]) (by simp [results, Tryz.results43, go_sem, e0, e1, e2, e3]) rfl ⟨rfl, HK6.bel⟩


end Go.Proofs.YtfnamfkjbkhgeaaGreatDoor

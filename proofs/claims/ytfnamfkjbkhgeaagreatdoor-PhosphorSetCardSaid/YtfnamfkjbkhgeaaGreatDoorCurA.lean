/-
  Cursors as thirteen cells, frames as eight; what only turns one into the other.
-/
import Derived.Test.YtfnamfkjbkhgeaaGreatDoorBoxM
namespace Go.Proofs.YtfnamfkjbkhgeaaGreatDoor

open Go Go.RowKit

/-- What a move leaves of a cursor. -/
structure CK where
  rd : Int
  kp : Bool
  og : Bool
  a : Int
  b : Int
  c : Int
  d : Int
  l : Int
  r : Int
  s : Int
abbrev uC (r c : Int) (wp : Bool) (K : CK) : Array Value := #[.int .i64 r, .int .i64 c, .int .u8 K.rd, .bool K.kp, .bool wp, .bool K.og, .int .i64 K.a, .int .i64 K.b, .int .i64 K.c, .int .i64 K.d, .int .i64 K.l, .int .i64 K.r, .int .i64 K.s]
def uV (r c : Int) (wp : Bool) (K : CK) : Value := .agg #[.int .i64 r, .int .i64 c, .int .u8 K.rd, .bool K.kp, .bool wp, .bool K.og, .int .i64 K.a, .int .i64 K.b, .int .i64 K.c, .int .i64 K.d, .int .i64 K.l, .int .i64 K.r, .int .i64 K.s]
abbrev zU : Array Value := #[.int .i64 0, .int .i64 0, .int .u8 0, .bool false, .bool false, .bool false, .int .i64 0, .int .i64 0, .int .i64 0, .int .i64 0, .int .i64 0, .int .i64 0, .int .i64 0]
/-- A frame: the page's box, and the margins. -/
structure Fr where
  pt : Int
  pl : Int
  pb : Int
  pr : Int
  mt : Int
  ml : Int
  mb : Int
  mr : Int
abbrev fC (f : Fr) : Array Value := #[.int .i64 f.pt, .int .i64 f.pl, .int .i64 f.pb, .int .i64 f.pr, .int .i64 f.mt, .int .i64 f.ml, .int .i64 f.mb, .int .i64 f.mr]
def fV (f : Fr) : Value := .agg #[.int .i64 f.pt, .int .i64 f.pl, .int .i64 f.pb, .int .i64 f.pr, .int .i64 f.mt, .int .i64 f.ml, .int .i64 f.mb, .int .i64 f.mr]

theorem cur13 {w : World} {g : Nat} {T : TypeId} {v0 v1 v2 v3 v4 v5 v6 v7 v8 v9 v10 v11 v12 : Value} (h : Blk w g T #[v0, v1, v2, v3, v4, v5, v6, v7, v8, v9, v10, v11, v12]) : w.cell? ⟨g, 0, none⟩ = some v0 ∧ w.cell? ⟨g, 1, none⟩ = some v1 ∧ w.cell? ⟨g, 2, none⟩ = some v2 ∧ w.cell? ⟨g, 3, none⟩ = some v3 ∧ w.cell? ⟨g, 4, none⟩ = some v4 ∧ w.cell? ⟨g, 5, none⟩ = some v5 ∧ w.cell? ⟨g, 6, none⟩ = some v6 ∧ w.cell? ⟨g, 7, none⟩ = some v7 ∧ w.cell? ⟨g, 8, none⟩ = some v8 ∧ w.cell? ⟨g, 9, none⟩ = some v9 ∧ w.cell? ⟨g, 10, none⟩ = some v10 ∧ w.cell? ⟨g, 11, none⟩ = some v11 ∧ w.cell? ⟨g, 12, none⟩ = some v12 :=
  ⟨h.cell 0, h.cell 1, h.cell 2, h.cell 3, h.cell 4, h.cell 5, h.cell 6, h.cell 7, h.cell 8, h.cell 9, h.cell 10, h.cell 11, h.cell 12⟩
theorem fro13 {w : World} {g : Nat} {T : TypeId} {cs : Array Value} (h : Blk w g T cs) : w.frozen? ⟨g, 0, none⟩ = false ∧ w.frozen? ⟨g, 1, none⟩ = false ∧ w.frozen? ⟨g, 2, none⟩ = false ∧ w.frozen? ⟨g, 3, none⟩ = false ∧ w.frozen? ⟨g, 4, none⟩ = false ∧ w.frozen? ⟨g, 5, none⟩ = false ∧ w.frozen? ⟨g, 6, none⟩ = false ∧ w.frozen? ⟨g, 7, none⟩ = false ∧ w.frozen? ⟨g, 8, none⟩ = false ∧ w.frozen? ⟨g, 9, none⟩ = false ∧ w.frozen? ⟨g, 10, none⟩ = false ∧ w.frozen? ⟨g, 11, none⟩ = false ∧ w.frozen? ⟨g, 12, none⟩ = false :=
  ⟨h.frozen 0, h.frozen 1, h.frozen 2, h.frozen 3, h.frozen 4, h.frozen 5, h.frozen 6, h.frozen 7, h.frozen 8, h.frozen 9, h.frozen 10, h.frozen 11, h.frozen 12⟩
theorem fra8 {w : World} {g : Nat} {T : TypeId} {v0 v1 v2 v3 v4 v5 v6 v7 : Value} (h : Blk w g T #[v0, v1, v2, v3, v4, v5, v6, v7]) : w.cell? ⟨g, 0, none⟩ = some v0 ∧ w.cell? ⟨g, 1, none⟩ = some v1 ∧ w.cell? ⟨g, 2, none⟩ = some v2 ∧ w.cell? ⟨g, 3, none⟩ = some v3 ∧ w.cell? ⟨g, 4, none⟩ = some v4 ∧ w.cell? ⟨g, 5, none⟩ = some v5 ∧ w.cell? ⟨g, 6, none⟩ = some v6 ∧ w.cell? ⟨g, 7, none⟩ = some v7 :=
  ⟨h.cell 0, h.cell 1, h.cell 2, h.cell 3, h.cell 4, h.cell 5, h.cell 6, h.cell 7⟩
def put13 (w : World) (g : Nat) (v0 v1 v2 v3 v4 v5 v6 v7 v8 v9 v10 v11 v12 : Value) : World := ((((((((((((w.setCell ⟨g, 0, none⟩ v0).setCell ⟨g, 1, none⟩ v1).setCell ⟨g, 2, none⟩ v2).setCell ⟨g, 3, none⟩ v3).setCell ⟨g, 4, none⟩ v4).setCell ⟨g, 5, none⟩ v5).setCell ⟨g, 6, none⟩ v6).setCell ⟨g, 7, none⟩ v7).setCell ⟨g, 8, none⟩ v8).setCell ⟨g, 9, none⟩ v9).setCell ⟨g, 10, none⟩ v10).setCell ⟨g, 11, none⟩ v11).setCell ⟨g, 12, none⟩ v12
theorem put13_repl {w : World} {g : Nat} {T : TypeId} {u0 u1 u2 u3 u4 u5 u6 u7 u8 u9 u10 u11 u12 : Value} (h : Blk w g T #[u0, u1, u2, u3, u4, u5, u6, u7, u8, u9, u10, u11, u12]) (v0 v1 v2 v3 v4 v5 v6 v7 v8 v9 v10 v11 v12 : Value) : Repl w (put13 w g v0 v1 v2 v3 v4 v5 v6 v7 v8 v9 v10 v11 v12) g T #[v0, v1, v2, v3, v4, v5, v6, v7, v8, v9, v10, v11, v12] := by
  unfold put13
  have h0 : Repl w (w.setCell ⟨g, 0, none⟩ v0) g T #[v0, u1, u2, u3, u4, u5, u6, u7, u8, u9, u10, u11, u12] := Repl.set h 0 v0
  have h1 : Repl (w.setCell ⟨g, 0, none⟩ v0) ((w.setCell ⟨g, 0, none⟩ v0).setCell ⟨g, 1, none⟩ v1) g T #[v0, v1, u2, u3, u4, u5, u6, u7, u8, u9, u10, u11, u12] := Repl.set h0.here 1 v1
  have h2 : Repl ((w.setCell ⟨g, 0, none⟩ v0).setCell ⟨g, 1, none⟩ v1) (((w.setCell ⟨g, 0, none⟩ v0).setCell ⟨g, 1, none⟩ v1).setCell ⟨g, 2, none⟩ v2) g T #[v0, v1, v2, u3, u4, u5, u6, u7, u8, u9, u10, u11, u12] := Repl.set h1.here 2 v2
  have h3 : Repl (((w.setCell ⟨g, 0, none⟩ v0).setCell ⟨g, 1, none⟩ v1).setCell ⟨g, 2, none⟩ v2) ((((w.setCell ⟨g, 0, none⟩ v0).setCell ⟨g, 1, none⟩ v1).setCell ⟨g, 2, none⟩ v2).setCell ⟨g, 3, none⟩ v3) g T #[v0, v1, v2, v3, u4, u5, u6, u7, u8, u9, u10, u11, u12] := Repl.set h2.here 3 v3
  have h4 : Repl ((((w.setCell ⟨g, 0, none⟩ v0).setCell ⟨g, 1, none⟩ v1).setCell ⟨g, 2, none⟩ v2).setCell ⟨g, 3, none⟩ v3) (((((w.setCell ⟨g, 0, none⟩ v0).setCell ⟨g, 1, none⟩ v1).setCell ⟨g, 2, none⟩ v2).setCell ⟨g, 3, none⟩ v3).setCell ⟨g, 4, none⟩ v4) g T #[v0, v1, v2, v3, v4, u5, u6, u7, u8, u9, u10, u11, u12] := Repl.set h3.here 4 v4
  have h5 : Repl (((((w.setCell ⟨g, 0, none⟩ v0).setCell ⟨g, 1, none⟩ v1).setCell ⟨g, 2, none⟩ v2).setCell ⟨g, 3, none⟩ v3).setCell ⟨g, 4, none⟩ v4) ((((((w.setCell ⟨g, 0, none⟩ v0).setCell ⟨g, 1, none⟩ v1).setCell ⟨g, 2, none⟩ v2).setCell ⟨g, 3, none⟩ v3).setCell ⟨g, 4, none⟩ v4).setCell ⟨g, 5, none⟩ v5) g T #[v0, v1, v2, v3, v4, v5, u6, u7, u8, u9, u10, u11, u12] := Repl.set h4.here 5 v5
  have h6 : Repl ((((((w.setCell ⟨g, 0, none⟩ v0).setCell ⟨g, 1, none⟩ v1).setCell ⟨g, 2, none⟩ v2).setCell ⟨g, 3, none⟩ v3).setCell ⟨g, 4, none⟩ v4).setCell ⟨g, 5, none⟩ v5) (((((((w.setCell ⟨g, 0, none⟩ v0).setCell ⟨g, 1, none⟩ v1).setCell ⟨g, 2, none⟩ v2).setCell ⟨g, 3, none⟩ v3).setCell ⟨g, 4, none⟩ v4).setCell ⟨g, 5, none⟩ v5).setCell ⟨g, 6, none⟩ v6) g T #[v0, v1, v2, v3, v4, v5, v6, u7, u8, u9, u10, u11, u12] := Repl.set h5.here 6 v6
  have h7 : Repl (((((((w.setCell ⟨g, 0, none⟩ v0).setCell ⟨g, 1, none⟩ v1).setCell ⟨g, 2, none⟩ v2).setCell ⟨g, 3, none⟩ v3).setCell ⟨g, 4, none⟩ v4).setCell ⟨g, 5, none⟩ v5).setCell ⟨g, 6, none⟩ v6) ((((((((w.setCell ⟨g, 0, none⟩ v0).setCell ⟨g, 1, none⟩ v1).setCell ⟨g, 2, none⟩ v2).setCell ⟨g, 3, none⟩ v3).setCell ⟨g, 4, none⟩ v4).setCell ⟨g, 5, none⟩ v5).setCell ⟨g, 6, none⟩ v6).setCell ⟨g, 7, none⟩ v7) g T #[v0, v1, v2, v3, v4, v5, v6, v7, u8, u9, u10, u11, u12] := Repl.set h6.here 7 v7
  have h8 : Repl ((((((((w.setCell ⟨g, 0, none⟩ v0).setCell ⟨g, 1, none⟩ v1).setCell ⟨g, 2, none⟩ v2).setCell ⟨g, 3, none⟩ v3).setCell ⟨g, 4, none⟩ v4).setCell ⟨g, 5, none⟩ v5).setCell ⟨g, 6, none⟩ v6).setCell ⟨g, 7, none⟩ v7) (((((((((w.setCell ⟨g, 0, none⟩ v0).setCell ⟨g, 1, none⟩ v1).setCell ⟨g, 2, none⟩ v2).setCell ⟨g, 3, none⟩ v3).setCell ⟨g, 4, none⟩ v4).setCell ⟨g, 5, none⟩ v5).setCell ⟨g, 6, none⟩ v6).setCell ⟨g, 7, none⟩ v7).setCell ⟨g, 8, none⟩ v8) g T #[v0, v1, v2, v3, v4, v5, v6, v7, v8, u9, u10, u11, u12] := Repl.set h7.here 8 v8
  have h9 : Repl (((((((((w.setCell ⟨g, 0, none⟩ v0).setCell ⟨g, 1, none⟩ v1).setCell ⟨g, 2, none⟩ v2).setCell ⟨g, 3, none⟩ v3).setCell ⟨g, 4, none⟩ v4).setCell ⟨g, 5, none⟩ v5).setCell ⟨g, 6, none⟩ v6).setCell ⟨g, 7, none⟩ v7).setCell ⟨g, 8, none⟩ v8) ((((((((((w.setCell ⟨g, 0, none⟩ v0).setCell ⟨g, 1, none⟩ v1).setCell ⟨g, 2, none⟩ v2).setCell ⟨g, 3, none⟩ v3).setCell ⟨g, 4, none⟩ v4).setCell ⟨g, 5, none⟩ v5).setCell ⟨g, 6, none⟩ v6).setCell ⟨g, 7, none⟩ v7).setCell ⟨g, 8, none⟩ v8).setCell ⟨g, 9, none⟩ v9) g T #[v0, v1, v2, v3, v4, v5, v6, v7, v8, v9, u10, u11, u12] := Repl.set h8.here 9 v9
  have h10 : Repl ((((((((((w.setCell ⟨g, 0, none⟩ v0).setCell ⟨g, 1, none⟩ v1).setCell ⟨g, 2, none⟩ v2).setCell ⟨g, 3, none⟩ v3).setCell ⟨g, 4, none⟩ v4).setCell ⟨g, 5, none⟩ v5).setCell ⟨g, 6, none⟩ v6).setCell ⟨g, 7, none⟩ v7).setCell ⟨g, 8, none⟩ v8).setCell ⟨g, 9, none⟩ v9) (((((((((((w.setCell ⟨g, 0, none⟩ v0).setCell ⟨g, 1, none⟩ v1).setCell ⟨g, 2, none⟩ v2).setCell ⟨g, 3, none⟩ v3).setCell ⟨g, 4, none⟩ v4).setCell ⟨g, 5, none⟩ v5).setCell ⟨g, 6, none⟩ v6).setCell ⟨g, 7, none⟩ v7).setCell ⟨g, 8, none⟩ v8).setCell ⟨g, 9, none⟩ v9).setCell ⟨g, 10, none⟩ v10) g T #[v0, v1, v2, v3, v4, v5, v6, v7, v8, v9, v10, u11, u12] := Repl.set h9.here 10 v10
  have h11 : Repl (((((((((((w.setCell ⟨g, 0, none⟩ v0).setCell ⟨g, 1, none⟩ v1).setCell ⟨g, 2, none⟩ v2).setCell ⟨g, 3, none⟩ v3).setCell ⟨g, 4, none⟩ v4).setCell ⟨g, 5, none⟩ v5).setCell ⟨g, 6, none⟩ v6).setCell ⟨g, 7, none⟩ v7).setCell ⟨g, 8, none⟩ v8).setCell ⟨g, 9, none⟩ v9).setCell ⟨g, 10, none⟩ v10) ((((((((((((w.setCell ⟨g, 0, none⟩ v0).setCell ⟨g, 1, none⟩ v1).setCell ⟨g, 2, none⟩ v2).setCell ⟨g, 3, none⟩ v3).setCell ⟨g, 4, none⟩ v4).setCell ⟨g, 5, none⟩ v5).setCell ⟨g, 6, none⟩ v6).setCell ⟨g, 7, none⟩ v7).setCell ⟨g, 8, none⟩ v8).setCell ⟨g, 9, none⟩ v9).setCell ⟨g, 10, none⟩ v10).setCell ⟨g, 11, none⟩ v11) g T #[v0, v1, v2, v3, v4, v5, v6, v7, v8, v9, v10, v11, u12] := Repl.set h10.here 11 v11
  have h12 : Repl ((((((((((((w.setCell ⟨g, 0, none⟩ v0).setCell ⟨g, 1, none⟩ v1).setCell ⟨g, 2, none⟩ v2).setCell ⟨g, 3, none⟩ v3).setCell ⟨g, 4, none⟩ v4).setCell ⟨g, 5, none⟩ v5).setCell ⟨g, 6, none⟩ v6).setCell ⟨g, 7, none⟩ v7).setCell ⟨g, 8, none⟩ v8).setCell ⟨g, 9, none⟩ v9).setCell ⟨g, 10, none⟩ v10).setCell ⟨g, 11, none⟩ v11) (((((((((((((w.setCell ⟨g, 0, none⟩ v0).setCell ⟨g, 1, none⟩ v1).setCell ⟨g, 2, none⟩ v2).setCell ⟨g, 3, none⟩ v3).setCell ⟨g, 4, none⟩ v4).setCell ⟨g, 5, none⟩ v5).setCell ⟨g, 6, none⟩ v6).setCell ⟨g, 7, none⟩ v7).setCell ⟨g, 8, none⟩ v8).setCell ⟨g, 9, none⟩ v9).setCell ⟨g, 10, none⟩ v10).setCell ⟨g, 11, none⟩ v11).setCell ⟨g, 12, none⟩ v12) g T #[v0, v1, v2, v3, v4, v5, v6, v7, v8, v9, v10, v11, v12] := Repl.set h11.here 12 v12
  exact h0.trans (h1.trans (h2.trans (h3.trans (h4.trans (h5.trans (h6.trans (h7.trans (h8.trans (h9.trans (h10.trans (h11.trans (h12))))))))))))
/-- Blocks of the call's own, each with its number, and that old memory is as it was. -/
def Bs (w : World) (l : List (Nat × TypeId × Array Value)) (W : World) : Prop := (∀ x ∈ l, w.heap.size ≤ x.1 ∧ Blk W x.1 x.2.1 x.2.2) ∧ l.Pairwise (fun x y => x.1 ≠ y.1) ∧ Below w.heap.size w W
section

variable {w W W' : World} {l : List (Nat × TypeId × Array Value)} {b : Nat} {T : TypeId} {cs cs' : Array Value} {x y z : Nat × TypeId × Array Value}

theorem Bs.nil (w : World) : Bs w [] w := ⟨fun x hx => (by cases hx), List.Pairwise.nil, Below.refl _ _⟩
theorem Bs.bel (h : Bs w l W) : Below w.heap.size w W := h.2.2
theorem Bs.b0 (h : Bs w ((b, T, cs) :: l) W) : Blk W b T cs := (h.1 (b, T, cs) (by simp)).2
theorem Bs.b1 (h : Bs w (x :: (b, T, cs) :: l) W) : Blk W b T cs := (h.1 (b, T, cs) (by simp)).2
theorem Bs.b2 (h : Bs w (x :: y :: (b, T, cs) :: l) W) : Blk W b T cs := (h.1 (b, T, cs) (by simp)).2
theorem Bs.b3 (h : Bs w (x :: y :: z :: (b, T, cs) :: l) W) : Blk W b T cs := (h.1 (b, T, cs) (by simp)).2
theorem Bs.b4 {u : Nat × TypeId × Array Value} (h : Bs w (x :: y :: z :: u :: (b, T, cs) :: l) W) : Blk W b T cs := (h.1 (b, T, cs) (by simp)).2
theorem Bs.g0 (h : Bs w ((b, T, cs) :: l) W) : w.heap.size ≤ b := (h.1 (b, T, cs) (by simp)).1
theorem Bs.next (h : Bs w l W) (hb : Below W.heap.size W W') : Bs w l W' := ⟨fun x hx => ⟨(h.1 x hx).1, (h.1 x hx).2.next hb⟩, h.2.1, h.2.2.trans (hb.mono h.2.2.size)⟩
theorem Bs.tl (h : Bs w (x :: l) W) : Bs w l W := ⟨fun y hy => h.1 y (List.mem_cons_of_mem _ hy), (List.pairwise_cons.1 h.2.1).2, h.2.2⟩
theorem Bs.alloc (h : Bs w l W) (T : TypeId) (cs : Array Value) : Bs w ((W.heap.size, T, cs) :: l) (W.alloc (.cells cs T)) :=
  ⟨fun y hy => by
    rcases List.mem_cons.1 hy with rfl | hy
    · exact ⟨h.2.2.size, Blk.new W T cs⟩
    · exact ⟨(h.1 y hy).1, (h.1 y hy).2.alloc _⟩, List.pairwise_cons.2 ⟨fun y hy e => by have := (h.1 y hy).2.lt; simp only at e; omega, h.2.1⟩, h.2.2.alloc h.2.2.size _⟩
theorem Bs.repl (h : Bs w ((b, T, cs) :: l) W) (hr : Repl W W' b T cs') (hb : Below b W W') : Bs w ((b, T, cs') :: l) W' :=
  ⟨fun y hy => by
    rcases List.mem_cons.1 hy with rfl | hy
    · exact ⟨h.g0, hr.here⟩
    · have hne : y.1 ≠ b := ((List.pairwise_cons.1 h.2.1).1 y hy).symm
      exact ⟨(h.1 y (List.mem_cons_of_mem _ hy)).1, (hr.far _ hne).trans (h.1 y (List.mem_cons_of_mem _ hy)).2⟩, List.pairwise_cons.2 ⟨(List.pairwise_cons.1 h.2.1).1, (List.pairwise_cons.1 h.2.1).2⟩, h.2.2.trans (hb.mono h.g0)⟩
theorem Bs.sw1 (h : Bs w (x :: y :: l) W) : Bs w (y :: x :: l) W :=
  ⟨fun u hu => h.1 u (by simp only [List.mem_cons] at hu ⊢; rcases hu with rfl | rfl | hu <;> simp [*]), by
    have h2 := h.2.1
    simp only [List.pairwise_cons, List.forall_mem_cons] at h2 ⊢
    exact ⟨⟨fun e => h2.1.1 e.symm, h2.2.1⟩, h2.1.2, h2.2.2⟩, h.2.2⟩
theorem Bs.sw2 (h : Bs w (x :: y :: z :: l) W) : Bs w (z :: x :: y :: l) W :=
  ⟨fun u hu => h.1 u (by simp only [List.mem_cons] at hu ⊢; rcases hu with rfl | rfl | rfl | hu <;> simp [*]), by
    have h2 := h.2.1
    simp only [List.pairwise_cons, List.forall_mem_cons] at h2 ⊢
    exact ⟨⟨fun e => h2.1.2.1 e.symm, fun e => h2.2.1.1 e.symm, h2.2.2.1⟩, ⟨h2.1.1, h2.1.2.2⟩, h2.2.1.2, h2.2.2.2⟩, h.2.2⟩
theorem Bs.only (h : Bs w l W) (ho : Only [] W W') : Bs w l W' := h.next ho.below0
/-- Behind a region that stored into the first block alone. -/
theorem Bs.mix (h : Bs w ((b, T, cs) :: l) W) (ho : Only [b] W W') (hn : Blk W' b T cs') : Bs w ((b, T, cs') :: l) W' :=
  ⟨fun y hy => by
    rcases List.mem_cons.1 hy with rfl | hy
    · exact ⟨h.g0, hn⟩
    · have hne : y.1 ≠ b := ((List.pairwise_cons.1 h.2.1).1 y hy).symm
      exact ⟨(h.1 y (List.mem_cons_of_mem _ hy)).1, ho.blk (h.1 y (List.mem_cons_of_mem _ hy)).2 (by simpa using hne)⟩, List.pairwise_cons.2 ⟨(List.pairwise_cons.1 h.2.1).1, (List.pairwise_cons.1 h.2.1).2⟩,
    h.2.2.trans ((ho.below (B := w.heap.size) h.2.2.size (by simpa using h.g0)))⟩
/-- Behind a region that made a box. -/
theorem Bs.made (h : Bs w l W) (ho : Only [] W W') (hge : W.heap.size ≤ b) (hn : Blk W' b T cs') : Bs w ((b, T, cs') :: l) W' :=
  ⟨fun y hy => by
    rcases List.mem_cons.1 hy with rfl | hy
    · exact ⟨by have := h.2.2.size; simp only; omega, hn⟩
    · exact (h.next ho.below0).1 y hy, List.pairwise_cons.2 ⟨fun y hy e => by have := (h.1 y hy).2.lt; simp only at e; omega, h.2.1⟩, h.2.2.trans (ho.below0.mono h.2.2.size)⟩
theorem Bs.s0 (h : Bs w ((b, T, cs) :: l) W) (j : Nat) (v : Value) : Bs w ((b, T, cs.setIfInBounds j v) :: l) (W.setCell ⟨b, j, none⟩ v) :=
  h.repl (Repl.set h.b0 j v) ((Below.refl _ _).setCell (p := ⟨b, j, none⟩) (Nat.le_refl _) v)
end

theorem Bs.start2 (w : World) (T U : TypeId) (x y : Array Value) : Bs w [(w.heap.size + 1, U, y), (w.heap.size, T, x)] ((w.alloc (.cells x T)).alloc (.cells y U)) := by
  have := ((Bs.nil w).alloc T x).alloc U y
  simpa using this
theorem Bs.start3 (w : World) (T U V : TypeId) (x y z : Array Value) : Bs w [(w.heap.size + 1 + 1, V, z), (w.heap.size + 1, U, y), (w.heap.size, T, x)] (((w.alloc (.cells x T)).alloc (.cells y U)).alloc (.cells z V)) := by
  have := (((Bs.nil w).alloc T x).alloc U y).alloc V z
  simpa using this

theorem put13_below {w W : World} {B g : Nat} (h : Below B w W) (hg : B ≤ g) (v0 v1 v2 v3 v4 v5 v6 v7 v8 v9 v10 v11 v12 : Value) : Below B w (put13 W g v0 v1 v2 v3 v4 v5 v6 v7 v8 v9 v10 v11 v12) := by
  unfold put13
  exact ((((((((((((h.setCell (p := ⟨g, 0, none⟩) hg v0).setCell (p := ⟨g, 1, none⟩) hg v1).setCell (p := ⟨g, 2, none⟩) hg v2).setCell (p := ⟨g, 3, none⟩) hg v3).setCell (p := ⟨g, 4, none⟩) hg v4).setCell (p := ⟨g, 5, none⟩) hg v5).setCell (p := ⟨g, 6, none⟩) hg v6).setCell (p := ⟨g, 7, none⟩) hg v7).setCell (p := ⟨g, 8, none⟩) hg v8).setCell (p := ⟨g, 9, none⟩) hg v9).setCell (p := ⟨g, 10, none⟩) hg v10).setCell (p := ⟨g, 11, none⟩) hg v11).setCell (p := ⟨g, 12, none⟩) hg v12
theorem Bs.p0 {w W : World} {b : Nat} {T : TypeId} {l : List (Nat × TypeId × Array Value)} {u0 u1 u2 u3 u4 u5 u6 u7 u8 u9 u10 u11 u12 : Value} (h : Bs w ((b, T, #[u0, u1, u2, u3, u4, u5, u6, u7, u8, u9, u10, u11, u12]) :: l) W) (v0 v1 v2 v3 v4 v5 v6 v7 v8 v9 v10 v11 v12 : Value) : Bs w ((b, T, #[v0, v1, v2, v3, v4, v5, v6, v7, v8, v9, v10, v11, v12]) :: l) (put13 W b v0 v1 v2 v3 v4 v5 v6 v7 v8 v9 v10 v11 v12) :=
  h.repl (put13_repl h.b0 v0 v1 v2 v3 v4 v5 v6 v7 v8 v9 v10 v11 v12) (put13_below (Below.refl _ _) (Nat.le_refl _) v0 v1 v2 v3 v4 v5 v6 v7 v8 v9 v10 v11 v12)
end Go.Proofs.YtfnamfkjbkhgeaaGreatDoor

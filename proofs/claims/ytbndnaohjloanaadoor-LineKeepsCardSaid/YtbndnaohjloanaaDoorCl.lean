/-
  Cells, slices of cells, in whatever layer: what it is to read as a list of cells; cells held against each other; slices of the call's own; a blank.
-/
import Derived.Test.YtbndnaohjloanaaDoorKit3
import Derived.Deep.RegionHeld3
import Derived.Laws.StructEq
namespace Go.Proofs.YtbndnaohjloanaaDoor

open Go.RowKit

/-- A cell's three parts. -/
structure Cl where
  g : Int
  r : Int
  k : Bool
/-- The parts lie within their kinds. -/
def Cl.ok (c : Cl) : Prop := (-2147483648 ≤ c.g ∧ c.g ≤ 2147483647) ∧ (0 ≤ c.r ∧ c.r ≤ 255)
def Cl.cells (c : Cl) : List Value := [.int .i32 c.g, .int .u8 c.r, .bool c.k]
def Cl.val (c : Cl) : Value := .agg #[.int .i32 c.g, .int .u8 c.r, .bool c.k]
theorem bcell {W w1 : World} (hb : Below W.heap.size W w1) : (∀ b o, b < W.heap.size → w1.cell? ⟨b, o, none⟩ = W.cell? ⟨b, o, none⟩) ∧ (∀ b o, b < W.heap.size → w1.frozen? ⟨b, o, none⟩ = W.frozen? ⟨b, o, none⟩) :=
  ⟨fun b o h => hb.cell (p := ⟨b, o, none⟩) h, fun b o h => hb.frozen (p := ⟨b, o, none⟩) h⟩

/-- A slice of cells that reads as l. -/
def RCells (w : World) (A : Option Addr) (l : List Cl) : Prop := Reads w w.heap.size 3 A l.length (l.flatMap Cl.cells)
theorem flat_at (l : List Cl) (k : Nat) (hk : k < l.length) :
    (l.flatMap Cl.cells)[k * 3]? = some (.int .i32 l[k].g) ∧ (l.flatMap Cl.cells)[k * 3 + 1]? = some (.int .u8 l[k].r) ∧ (l.flatMap Cl.cells)[k * 3 + 2]? = some (.bool l[k].k) := by
  induction l generalizing k with
  | nil => simp at hk
  | cons c l ih =>
    cases k with
    | zero => simp [Cl.cells]
    | succ k =>
      have h := ih k (by simpa using hk)
      have e : (k + 1) * 3 = k * 3 + 3 := by omega
      rw [List.flatMap_cons, e]
      simp only [Cl.cells, List.cons_append, List.nil_append, List.getElem?_cons_succ, List.getElem_cons_succ]
      exact h
theorem flat_len (l : List Cl) : (l.flatMap Cl.cells).length = l.length * 3 := by
  induction l with
  | nil => rfl
  | cons c l ih => rw [List.flatMap_cons, List.length_append, ih, List.length_cons]; simp [Cl.cells]; omega
theorem RCells.next {w w' : World} {A : Option Addr} {l : List Cl} (h : RCells w A l) (hb : Below w.heap.size w w') : RCells w' A l := (Reads.below h hb).more hb.size
theorem RCells.at_ {w : World} {A : Option Addr} {l : List Cl} (h : RCells w A l) {k : Nat} (hk : k < l.length) :
    ∃ ad, A = some ad ∧ ad.block < w.heap.size ∧ w.cell? (ad.add (k * 3)) = some (.int .i32 l[k].g) ∧ w.cell? ⟨(ad.add (k * 3)).block, (ad.add (k * 3)).off + 1, none⟩ = some (.int .u8 l[k].r) ∧ w.cell? ⟨(ad.add (k * 3)).block, (ad.add (k * 3)).off + 2, none⟩ = some (.bool l[k].k) := by
  obtain ⟨ad, e, hb, hc⟩ := h.2 (by omega)
  obtain ⟨h1, h2, h3⟩ := flat_at l k hk
  have a1 : (⟨(ad.add (k * 3)).block, (ad.add (k * 3)).off + 1, none⟩ : Addr) = ad.add (k * 3 + 1) := (show _ = (ad.add (k * 3)).add 1 from rfl).trans (add_of_add ad _ _)
  have a2 : (⟨(ad.add (k * 3)).block, (ad.add (k * 3)).off + 2, none⟩ : Addr) = ad.add (k * 3 + 2) := (show _ = (ad.add (k * 3)).add 2 from rfl).trans (add_of_add ad _ _)
  refine ⟨ad, e, hb, hc _ _ h1, ?_, ?_⟩
  · rw [a1]; exact hc _ _ h2
  · rw [a2]; exact hc _ _ h3
/-- Cells that lie within their kinds. -/
def OkCells (l : List Cl) : Prop := ∀ c ∈ l, c.ok
theorem flat_set (l : List Cl) (k : Nat) (hk : k < l.length) (c : Cl) :
    (((l.flatMap Cl.cells).set (k * 3) (.int .i32 c.g)).set (k * 3 + 1) (.int .u8 c.r)).set (k * 3 + 2) (.bool c.k) = (l.set k c).flatMap Cl.cells := by
  induction l generalizing k with
  | nil => simp at hk
  | cons x l ih =>
    cases k with
    | zero => simp [Cl.cells]
    | succ k =>
      have h := ih k (by simpa using hk)
      have e : (k + 1) * 3 = k * 3 + 3 := by omega
      rw [List.flatMap_cons, e, List.set_cons_succ, List.flatMap_cons, ← h]
      simp [Cl.cells]
theorem RCells.take {w : World} {A : Option Addr} {l : List Cl} (h : RCells w A l) (n : Nat) : RCells w A (l.take n) := by
  have hle : (l.take n).length ≤ l.length := by rw [List.length_take]; omega
  refine ⟨flat_len _, fun hn => ?_⟩
  obtain ⟨ad, e, hb, hc⟩ := h.2 (by omega)
  refine ⟨ad, e, hb, fun j u hu => hc j u ?_⟩
  rw [← hu]
  have e2 : l.flatMap Cl.cells = (l.take n).flatMap Cl.cells ++ (l.drop n).flatMap Cl.cells := by
    rw [← List.flatMap_append, List.take_append_drop]
  have hj : j < ((l.take n).flatMap Cl.cells).length := by
    rcases Nat.lt_or_ge j ((l.take n).flatMap Cl.cells).length with h | h
    · exact h
    · rw [List.getElem?_eq_none h] at hu; cases hu
  rw [e2, List.getElem?_append_left hj]

/-- Two cells held against each other. -/
theorem stood44 : Tryd.prog.stoodInHeld 45 = false := by kernel_rfl
theorem guard44 : Tryd.prog.eqGuardType Tryd.prog.depth 45 = false := by kernel_rfl
theorem fields44 : (Tryd.prog.fieldsOf 45).toList.map (fun f => (f.name != "_", f.type, f.offset)) = [(true, 21, 0), (true, 43, 1), (true, 4, 2)] := by kernel_rfl
theorem under44 : Tryd.prog.underlying 45 = some (.struct (Tryd.prog.fieldsOf 45)) := by kernel_rfl
theorem part_one (t : TypeId) (ht : t = 21 ∨ t = 43 ∨ t = 4) (W : World) (xs : Array Value) (i : Nat) (v : Value) (h : xs[i]? = some v) : (part t xs i).run Tryd.prog W = .ok v W := by
  rcases ht with rfl | rfl | rfl <;> simp [part, h]
def Cl.beq (x y : Cl) : Bool := x.g == y.g && (x.r == y.r && x.k == y.k)
theorem Cl.beq_iff (x y : Cl) : x.beq y = true ↔ x = y := by
  obtain ⟨a, b, c⟩ := x
  obtain ⟨a', b', c'⟩ := y
  simp [Cl.beq]
set_option maxRecDepth 100000 in
theorem eqIn_cells (W : World) (m : Nat) (a a' b b' : Int) (c c' : Bool) : (Op.equalIn (m + 2) 45 (.agg #[.int .i32 a, .int .u8 b, .bool c]) (.agg #[.int .i32 a', .int .u8 b', .bool c'])).run Tryd.prog W = .ok (Cl.beq ⟨a, b, c⟩ ⟨a', b', c'⟩) W := by
  rw [run_equalIn_struct W (m + 1) 45 _ _ under44 stood44]
  obtain ⟨fs, hfs⟩ : ∃ fs, (Tryd.prog.fieldsOf 45).toList = fs := ⟨_, rfl⟩
  have hf := fields44
  rw [hfs] at hf ⊢
  match fs, hf with
  | [f0, f1, f2], hf =>
    simp only [List.map_cons, List.map_nil, List.cons.injEq, Prod.mk.injEq, bne_iff_ne, and_true] at hf
    obtain ⟨⟨n0, t0, o0⟩, ⟨n1, t1, o1⟩, ⟨n2, t2, o2⟩⟩ := hf
    have p0 := part_one 21 (.inl rfl) W #[.int .i32 a, .int .u8 b, .bool c] 0 (.int .i32 a) rfl
    have p1 := part_one 43 (.inr (.inl rfl)) W #[.int .i32 a, .int .u8 b, .bool c] 1 (.int .u8 b) rfl
    have p2 := part_one 4 (.inr (.inr rfl)) W #[.int .i32 a, .int .u8 b, .bool c] 2 (.bool c) rfl
    have q0 := part_one 21 (.inl rfl) W #[.int .i32 a', .int .u8 b', .bool c'] 0 (.int .i32 a') rfl
    have q1 := part_one 43 (.inr (.inl rfl)) W #[.int .i32 a', .int .u8 b', .bool c'] 1 (.int .u8 b') rfl
    have q2 := part_one 4 (.inr (.inr rfl)) W #[.int .i32 a', .int .u8 b', .bool c'] 2 (.bool c') rfl
    have E0 : (Op.equalIn (m + 1) 21 (.int .i32 a) (.int .i32 a')).run Tryd.prog W = .ok (a == a') W := run_equalIn_int W m 21 .i32 .i32 a a' Tryd.underlying21
    have E1 : (Op.equalIn (m + 1) 43 (.int .u8 b) (.int .u8 b')).run Tryd.prog W = .ok (b == b') W := run_equalIn_int W m 43 .u8 .u8 b b' Tryd.underlying43
    have E2 : (Op.equalIn (m + 1) 4 (.bool c) (.bool c')).run Tryd.prog W = .ok (c == c') W := run_equalIn_bool' W m 4 c c' Tryd.underlying4
    simp only [Op.eqFields, t0, t1, t2, o0, o1, o2, n0, n1, n2, ne_eq, not_false_eq_true, if_true, Sem.run_bind, p0, p1, p2, q0, q1, q2, E0, E1, E2, Result.andThen_ok, Sem.run_ite, Sem.run_pure, Cl.beq]
    by_cases e0 : a = a'
    · by_cases e1 : b = b'
      · by_cases e2 : c = c'
        · subst e0 e1 e2; simp
        · subst e0 e1; simp [e2]
      · subst e0; simp [e1]
    · simp [e0]
theorem eql_cells (W : World) (x y : Cl) : (binOp .eql 45 x.val y.val).run Tryd.prog W = .ok (.bool (x.beq y)) W := by
  unfold Cl.val
  rw [run_eql_struct, show (10000 : Nat) = 9998 + 2 from rfl, eqIn_cells W 9998]
  rfl
theorem neq_cells (W : World) (x y : Cl) : (binOp .neq 45 x.val y.val).run Tryd.prog W = .ok (.bool (!x.beq y)) W := by
  unfold Cl.val
  rw [run_neq_struct, show (10000 : Nat) = 9998 + 2 from rfl, eqIn_cells W 9998]
  rfl
theorem guard_cells (op : BinOp) (W : World) (p q : Operand) (x y : Cl) : (eqGuard op 45 p q x.val y.val).run Tryd.prog W = .ok () W := run_eqGuard_agg W op _ p q _ _ guard44

set_option maxHeartbeats 400000 in
theorem erased_any (w : World) : Calls Tryd.prog 25 #[] w fun e w' => e = .returned (Cl.val ⟨32, 0, false⟩) ∧ Below w.heap.size w w' := by
  go_enter Tryd.func25, Tryd.ntmps25
  go_wp2
  go_returns
  exact ⟨rfl, by go_grown⟩

def OCells (w : World) (base : Nat) (v : Value) (l : List Cl) : Prop := w.ownsRow base 45 3 v l.length (l.flatMap Cl.cells)
theorem info_cell : (Tryd.prog.info? 45).map (fun i => (i.zero, i.size, i.bytes)) = some (some (.agg #[.int .i32 0, .int .u8 0, .bool false]), 3, 8) := by kernel_rfl
theorem OCells.reads {w : World} {base : Nat} {A : Option Addr} {c : Nat} {l : List Cl} (h : OCells w base (.slice A l.length c) l) : RCells w A l := Reads.of_own h
theorem OCells.form {w : World} {base : Nat} {v : Value} {l : List Cl} (h : OCells w base v l) : ∃ A c, v = .slice A l.length c ∧ l.length ≤ c := by
  rcases h.2 with ⟨rfl, hn⟩ | ⟨g, cap, _, rfl, _, _, hle, _⟩
  · exact ⟨none, 0, by rw [hn], by omega⟩
  · exact ⟨_, _, rfl, hle⟩
theorem OCells.next {w w' : World} {base : Nat} {v : Value} {l : List Cl} (h : OCells w base v l) (hb : Below w.heap.size w w') : OCells w' base v l :=
  World.ownsRow.kept (row := none) h ⟨hb.os, hb.tape, hb.output, hb.size, fun k hk _ => hb.block k hk⟩ (by cases v.ownBlock <;> simp)
theorem cells_one (l : List Cl) : ∀ u ∈ l.flatMap Cl.cells, u.oneCell' = true := by
  intro u hu
  obtain ⟨c, _, hc⟩ := List.mem_flatMap.1 hu
  simp [Cl.cells] at hc
  rcases hc with rfl | rfl | rfl <;> rfl


end Go.Proofs.YtbndnaohjloanaaDoor

/-
  Plain words that all proofs of this seat share: what a world keeps, and how a law's row is closed.
-/
import Derived.Test.YtdjbfnhgendacaaDoorProg
import Derived.Test.YtdjbfnhgendacaaDoorPlain
import Derived.WalkKit
import Derived.Handy
import Derived.Outline
import Derived.Laws.Rows
import Derived.Deep.Draws
import Derived.Lib.Hide
import Derived.Deep.DeepFit
import Derived.Laws.OwnMore
import Derived.Deep.AppendLies
import Derived.Deep.QuietTactic
import Derived.BigQuiet
namespace Go.Proofs.YtdjbfnhgendacaaDoor
open Go.RowKit

theorem ret_eq {a b : Value} (h : a = b) : Ending.returned a = .returned b := by rw [h]
theorem ret_int {k : IntKind} {a b : Int} (h : a = b) : Ending.returned (.int k a) = .returned (.int k b) := by rw [h]
theorem ret_bool {a b : Bool} (h : a = b) : Ending.returned (.bool a) = .returned (.bool b) := by rw [h]
theorem below_drewN {B : Nat} {a w : World} (h : Below B a w) (n : Nat) : Below B a (w.drewN n) := ⟨h.os, h.tape, h.output, h.size, h.block⟩

/-- The cells of the table of a rendition's parts, one behind the other. -/
def tabCells : List Value := [.int .u8 1, .int .i64 1, .int .i64 22, .int .u8 98, .int .i64 128, .int .u8 2, .int .i64 4, .int .i64 24, .int .u8 117, .int .i64 16,
  .int .u8 4, .int .i64 5, .int .i64 25, .int .u8 107, .int .i64 64, .int .u8 8, .int .i64 7, .int .i64 27, .int .u8 114, .int .i64 32,
  .int .u8 16, .int .i64 8, .int .i64 28, .int .u8 104, .int .i64 8]
/-- The table as one value. -/
def tabV : Value := .agg tabCells.toArray
/-- The world holds the table. -/
def Tab (w : World) : Prop := 0 < w.heap.size ∧ ∀ j v, tabCells[j]? = some v → w.cell? ⟨0, j, none⟩ = some v
theorem Tab.below {B : Nat} {w w' : World} (h : Tab w) (hB : 0 < B) (hb : Below B w w') : Tab w' :=
  ⟨Nat.lt_of_lt_of_le h.1 hb.size, fun j v hj => (hb.cell (p := ⟨0, j, none⟩) hB).trans (h.2 j v hj)⟩
theorem Tab.next {w w' : World} (h : Tab w) (hb : Below w.heap.size w w') : Tab w' := h.below h.1 hb

theorem info_tab : (Tryd.prog.info? 71).map (·.size) = some tabCells.length := by kernel_rfl
theorem load_tab {w : World} (h : Tab w) : (loadVar 71 ⟨0, 0, none⟩).run Tryd.prog w = .ok tabV w := by
  have hl : (loadCells ⟨0, 0, none⟩ tabCells.length).run Tryd.prog w = .ok tabCells.toArray w :=
    run_loadCells_list w ⟨0, 0, none⟩ tabCells (fun j v hv => by
      have hadd : (⟨0, 0, none⟩ : Addr).add j = ⟨0, j, none⟩ := by unfold Addr.add; split <;> simp_all
      rw [hadd]; exact h.2 j v hv)
  obtain ⟨i, hq, hs⟩ := Option.map_eq_some_iff.1 info_tab
  have hagg : (isAgg 71).run Tryd.prog w = .ok true w := by kernel_rfl
  simp only [loadVar, Sem.run_bind, hagg, Result.andThen_ok, sizeOf, typeInfo]
  simp [hq, hs, hl, tabV]

theorem wpList_load_tab {ops : Array Oper} {rest : List Oper} {o : Oper} {a : Act} {w : World} {Q : Exit → Act → World → Prop} (h : Tab w) (hgd : o.guard = none) (x : Operand) (ho : o.op = .load 71 x)
    (hx : a.eval x = .pointer (some ⟨0, 0, none⟩)) (hk : wpList Tryd.prog ops Q rest (a.put o.dst tabV) w) : wpList Tryd.prog ops Q (o :: rest) a w :=
  wpList_plain hgd fun _ hK => by
    unfold Oper.wp execOp
    simp only [ho, hx, Instr.loadAt, Instr.sureAddr, Sem.run_bind, Sem.run_pure, Result.andThen_ok, load_tab h]
    exact hK _ _ hk

theorem idx_tab : ∀ (k : Nat), k < 5 → ∀ (w : World), (Instr.index 71 tabV (.int .i64 k)).run Tryd.prog w = .ok (.agg #[.int .u8 (pBit k), .int .i64 (pOn k), .int .i64 (pOff k), .int .u8 (pLet k), .int .i64 (pWt k)]) w
  | 0, _, _ => by kernel_rfl
  | 1, _, _ => by kernel_rfl
  | 2, _, _ => by kernel_rfl
  | 3, _, _ => by kernel_rfl
  | 4, _, _ => by kernel_rfl

/-- A slice value that reads as the cells xs, nil let in; it lies below block B. -/
theorem block_of_add (a : Addr) (n : Nat) : (a.add n).block = a.block := by unfold Addr.add; split <;> rfl
theorem add_of_add (a : Addr) (i j : Nat) : (a.add i).add j = a.add (i + j) := by
  unfold Addr.add
  by_cases hi : i = 0 <;> by_cases hj : j = 0 <;> simp [hi, hj, Nat.add_assoc]
def Reads (w : World) (B size : Nat) (A : Option Addr) (n : Nat) (xs : List Value) : Prop :=
  xs.length = n * size ∧ (0 < n → ∃ ad, A = some ad ∧ ad.block < B ∧ ∀ j u, xs[j]? = some u → w.cell? (ad.add j) = some u)
section
variable {w w' : World} {B B' size n : Nat} {A : Option Addr} {xs : List Value}
theorem Reads.none_ : Reads w B size A 0 [] := ⟨by simp, fun h => absurd h (by omega)⟩
theorem Reads.at_ {k : Nat} (h : Reads w B 1 A n xs) (hk : k < n) : ∃ ad u, A = some ad ∧ ad.block < B ∧ xs[k]? = some u ∧ w.cell? (ad.add k) = some u := by
  obtain ⟨ad, e, hb, hc⟩ := h.2 (by omega)
  have hl : k < xs.length := by have := h.1; omega
  exact ⟨ad, xs[k], e, hb, List.getElem?_eq_getElem hl, hc k _ (List.getElem?_eq_getElem hl)⟩
theorem Reads.keep (h : Reads w B size A n xs) (hk : ∀ p : Addr, p.block < B → w'.cell? p = w.cell? p) : Reads w' B size A n xs :=
  ⟨h.1, fun hn => by
    obtain ⟨ad, e, hb, hc⟩ := h.2 hn
    exact ⟨ad, e, hb, fun j u hu => (hk _ (by rw [block_of_add]; exact hb)).trans (hc j u hu)⟩⟩
theorem Reads.more (h : Reads w B size A n xs) (hB : B ≤ B') : Reads w B' size A n xs :=
  ⟨h.1, fun hn => by
    obtain ⟨ad, e, hb, hc⟩ := h.2 hn
    exact ⟨ad, e, by omega, hc⟩⟩
theorem Reads.below (h : Reads w B size A n xs) (hb : Below B w w') : Reads w' B size A n xs := h.keep fun _ hp => hb.cell hp
theorem Reads.of_own {base : Nat} {e : TypeId} {c : Nat} (h : w.ownsRow base e size (.slice A n c) n xs) : Reads w w.heap.size size A n xs := by
  refine ⟨h.1, fun hn => ?_⟩
  obtain ⟨g, cap, hv, _, hlt⟩ := h.form hn
  have hA : A = some ⟨g, 0, none⟩ := by injection hv
  subst hA
  exact ⟨_, rfl, hlt, h.cells (g := g) rfl⟩
end
/-- A slice of ints that reads as ns. -/
def RInts (w : World) (A : Option Addr) (ns : List Int) : Prop := Reads w w.heap.size 1 A ns.length (ns.map (Value.int .i64))
theorem RInts.next {w w' : World} {A : Option Addr} {ns : List Int} (h : RInts w A ns) (hb : Below w.heap.size w w') : RInts w' A ns := (Reads.below h hb).more hb.size
theorem RInts.at_ {w : World} {A : Option Addr} {ns : List Int} (h : RInts w A ns) {k : Nat} (hk : k < ns.length) :
    ∃ ad, A = some ad ∧ ad.block < w.heap.size ∧ w.cell? (ad.add k) = some (.int .i64 ns[k]) := by
  obtain ⟨ad, u, e, hb, hu, hc⟩ := Reads.at_ h hk
  refine ⟨ad, e, hb, ?_⟩
  rw [hc, ← hu]
  simp [List.getElem?_eq_getElem hk]
theorem take_snoc {α : Type} (l : List α) (k : Nat) (h : k < l.length) : l.take (k + 1) = l.take k ++ [l[k]] := by
  rw [List.take_succ_eq_append_getElem h]
theorem foldl_snoc {α β : Type} (f : β → α → β) (b : β) (l : List α) (k : Nat) (h : k < l.length) : (l.take (k + 1)).foldl f b = f ((l.take k).foldl f b) l[k] := by
  rw [take_snoc l k h, List.foldl_append]; rfl

/-- A block that is known whole. -/
def Blk (w : World) (g : Nat) (t : TypeId) (cs : Array Value) : Prop := w.heap[g]? = some (.cells cs t (0, 0))
section
variable {w w' : World} {g : Nat} {t : TypeId} {cs : Array Value}
theorem Blk.lt (h : Blk w g t cs) : g < w.heap.size := by
  rcases Nat.lt_or_ge g w.heap.size with hlt | hge
  · exact hlt
  · unfold Blk at h; rw [Array.getElem?_eq_none hge] at h; cases h
theorem Blk.cell (h : Blk w g t cs) (i : Nat) : w.cell? ⟨g, i, none⟩ = cs[i]? := cell_of_row w g i cs t (0, 0) h
theorem Blk.frozen (h : Blk w g t cs) (i : Nat) : w.frozen? ⟨g, i, none⟩ = false := by
  unfold Blk at h
  simp [World.frozen?, h]
theorem Blk.new (w : World) (t : TypeId) (cs : Array Value) : Blk (w.alloc (.cells cs t)) w.heap.size t cs := heap_alloc_new w _
theorem Blk.alloc (h : Blk w g t cs) (o : Obj) : Blk (w.alloc o) g t cs := (Below.heap_alloc w o g h.lt).trans h
theorem Blk.set_ (h : Blk w g t cs) (i : Nat) (u : Value) : Blk (w.setCell ⟨g, i, none⟩ u) g t (cs.setIfInBounds i u) := by
  unfold Blk at h ⊢
  simp [World.setCell, Array.getElem?_modify, h]
theorem Blk.far (h : Blk w g t cs) {p : Addr} (hp : g ≠ p.block) (u : Value) : Blk (w.setCell p u) g t cs := (Below.heap_setCell w p u g hp).trans h
theorem Blk.below {B : Nat} (h : Blk w g t cs) (hb : Below B w w') (hg : g < B) : Blk w' g t cs := (hb.block g hg).trans h
theorem Blk.next (h : Blk w g t cs) (hb : Below w.heap.size w w') : Blk w' g t cs := h.below hb h.lt
theorem Blk.grown {row : Option Nat} (h : Blk w g t cs) (hb : w.grownBy w' row) (hg : some g ≠ row) : Blk w' g t cs := (hb.block g h.lt hg).trans h
end
/-- A store into another block leaves what a slice of ints reads. -/
theorem RInts.store {w : World} {A : Option Addr} {ns : List Int} (h : RInts w A ns) (p : Addr) (hne : ∀ ad, A = some ad → ad.block ≠ p.block) (u : Value) : RInts (w.setCell p u) A ns := by
  refine ⟨h.1, fun hn => ?_⟩
  obtain ⟨ad, e, hb, hc⟩ := h.2 hn
  refine ⟨ad, e, by simpa [World.setCell] using hb, fun j v hv => ?_⟩
  rw [World.cell?_setCell_other w p _ u (fun e' => hne ad e (by rw [e', block_of_add]))]
  exact hc j v hv
/-- A new block of ints reads as they are. -/
theorem rints_new (w : World) (t : TypeId) (ns : List Int) (cs : Array Value) (hcs : cs = (ns.map (Value.int .i64)).toArray) (g : Nat) (hg : g = w.heap.size) : RInts (w.alloc (.cells cs t)) (some ⟨g, 0, none⟩) ns := by
  subst hg hcs
  refine ⟨by simp, fun _ => ⟨_, rfl, by simp, fun j u hu => ?_⟩⟩
  have hadd : (⟨w.heap.size, 0, none⟩ : Addr).add j = ⟨w.heap.size, j, none⟩ := by unfold Addr.add; split <;> simp_all
  rw [hadd, (Blk.new w t _).cell j]
  simpa using hu
/-- The five parts of a rendition, as the cells of a block. -/
def cellsF (y : Int) : Array Value := #[.bool (fb y 0), .bool (fb y 1), .bool (fb y 2), .bool (fb y 3), .bool (fb y 4)]
theorem cellsF_or {y : Int} (h0 : 0 ≤ y) (h1 : y < 32) (k : Nat) (hk : k < 5) : (cellsF y).setIfInBounds k (.bool true) = cellsF (bits .or .u8 y (pBit k)) := by
  have h := ((ap1_parts h0 h1).1 k hk).2.2
  unfold cellsF
  rw [h 0 (by omega), h 1 (by omega), h 2 (by omega), h 3 (by omega), h 4 (by omega)]
  match k, hk with
  | 0, _ => rfl
  | 1, _ => rfl
  | 2, _ => rfl
  | 3, _ => rfl
  | 4, _ => rfl
theorem cellsF_andNot {y : Int} (h0 : 0 ≤ y) (h1 : y < 32) (k : Nat) (hk : k < 5) : (cellsF y).setIfInBounds k (.bool false) = cellsF (bits .andNot .u8 y (pBit k)) := by
  have h := ((ap1_parts h0 h1).2.1 k hk).2.2
  unfold cellsF
  rw [h 0 (by omega), h 1 (by omega), h 2 (by omega), h 3 (by omega), h 4 (by omega)]
  match k, hk with
  | 0, _ => rfl
  | 1, _ => rfl
  | 2, _ => rfl
  | 3, _ => rfl
  | 4, _ => rfl
theorem cellsF_xor {y : Int} (h0 : 0 ≤ y) (h1 : y < 32) (k : Nat) (hk : k < 5) : (cellsF y).setIfInBounds k (.bool (!fb y k)) = cellsF (bits .xor .u8 y (pBit k)) := by
  have h := ((ap1_parts h0 h1).2.2 k hk).2.2
  unfold cellsF
  rw [h 0 (by omega), h 1 (by omega), h 2 (by omega), h 3 (by omega), h 4 (by omega)]
  match k, hk with
  | 0, _ => rfl
  | 1, _ => rfl
  | 2, _ => rfl
  | 3, _ => rfl
  | 4, _ => rfl
theorem cellsF_cell {w : World} {g : Nat} {t : TypeId} {y : Int} (h : Blk w g t (cellsF y)) :
    w.cell? ⟨g, 0, none⟩ = some (.bool (fb y 0)) ∧ w.cell? ⟨g, 1, none⟩ = some (.bool (fb y 1)) ∧ w.cell? ⟨g, 2, none⟩ = some (.bool (fb y 2)) ∧ w.cell? ⟨g, 3, none⟩ = some (.bool (fb y 3)) ∧ w.cell? ⟨g, 4, none⟩ = some (.bool (fb y 4)) :=
  ⟨h.cell 0, h.cell 1, h.cell 2, h.cell 3, h.cell 4⟩
end Go.Proofs.YtdjbfnhgendacaaDoor

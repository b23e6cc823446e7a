/-
  Plain words that the proofs over renditions share: the table of a rendition's parts; its five parts as a block.
-/
import Derived.Test.YtfnamfkjbkhgeaaGreatDoorGen
import Derived.Test.YtfnamfkjbkhgeaaGreatDoorPlain
namespace Go.Proofs.YtfnamfkjbkhgeaaGreatDoor

open Go.RowKit

/-- The cells of the table of a rendition's parts, one behind the other. -/
def tabCells : List Value := [.int .u8 1, .int .i64 1, .int .i64 22, .int .u8 98, .int .i64 128, .int .u8 2, .int .i64 4, .int .i64 24, .int .u8 117, .int .i64 16,
  .int .u8 4, .int .i64 5, .int .i64 25, .int .u8 107, .int .i64 64, .int .u8 8, .int .i64 7, .int .i64 27, .int .u8 114, .int .i64 32,
  .int .u8 16, .int .i64 8, .int .i64 28, .int .u8 104, .int .i64 8]
/-- The table as one value. -/
def tabV : Value := .agg tabCells.toArray
/-- The world holds the table. -/
def Tab (w : World) : Prop := 0 < w.heap.size ∧ ∀ j v, tabCells[j]? = some v → w.cell? ⟨0, j, none⟩ = some v
theorem Tab.below {B : Nat} {w w' : World} (h : Tab w) (hB : 0 < B) (hb : Below B w w') : Tab w' :=
  ⟨Nat.lt_of_lt_of_le h.1 hb.size, fun j v hj => (hb.cell (p := ⟨0, j, none⟩) hB).trans (h.2 j v hj)⟩
theorem Tab.next {w w' : World} (h : Tab w) (hb : Below w.heap.size w w') : Tab w' := h.below h.1 hb

theorem info_tab : (Tryz.prog.info? 162).map (·.size) = some tabCells.length := by kernel_rfl
theorem load_tab {w : World} (h : Tab w) : (loadVar 162 ⟨0, 0, none⟩).run Tryz.prog w = .ok tabV w := by
  have hl : (loadCells ⟨0, 0, none⟩ tabCells.length).run Tryz.prog w = .ok tabCells.toArray w :=
    run_loadCells_list w ⟨0, 0, none⟩ tabCells (fun j v hv => by
      have hadd : (⟨0, 0, none⟩ : Addr).add j = ⟨0, j, none⟩ := by unfold Addr.add; split <;> simp_all
      rw [hadd]; exact h.2 j v hv)
  obtain ⟨i, hq, hs⟩ := Option.map_eq_some_iff.1 info_tab
  have hagg : (isAgg 162).run Tryz.prog w = .ok true w := by kernel_rfl
  simp only [loadVar, Sem.run_bind, hagg, Result.andThen_ok, sizeOf, typeInfo]
  simp [hq, hs, hl, tabV]

theorem wpList_load_tab {ops : Array Oper} {rest : List Oper} {o : Oper} {a : Act} {w : World} {Q : Exit → Act → World → Prop} (h : Tab w) (hgd : o.guard = none) (x : Operand) (ho : o.op = .load 162 x)
    (hx : a.eval x = .pointer (some ⟨0, 0, none⟩)) (hk : wpList Tryz.prog ops Q rest (a.put o.dst tabV) w) : wpList Tryz.prog ops Q (o :: rest) a w :=
  wpList_plain hgd fun _ hK => by
    unfold Oper.wp execOp
    simp only [ho, hx, Instr.loadAt, Instr.sureAddr, Sem.run_bind, Sem.run_pure, Result.andThen_ok, load_tab h]
    exact hK _ _ hk

theorem idx_tab : ∀ (k : Nat), k < 5 → ∀ (w : World), (Instr.index 162 tabV (.int .i64 k)).run Tryz.prog w = .ok (.agg #[.int .u8 (pBit k), .int .i64 (pOn k), .int .i64 (pOff k), .int .u8 (pLet k), .int .i64 (pWt k)]) w
  | 0, _, _ => by kernel_rfl
  | 1, _, _ => by kernel_rfl
  | 2, _, _ => by kernel_rfl
  | 3, _, _ => by kernel_rfl
  | 4, _, _ => by kernel_rfl

/-- The five parts of a rendition, as the cells of a block. -/
def cellsF (y : Int) : Array Value := #[.bool (fb y 0), .bool (fb y 1), .bool (fb y 2), .bool (fb y 3), .bool (fb y 4)]
theorem cellsF_or {y : Int} (h0 : 0 ≤ y) (h1 : y < 32) (k : Nat) (hk : k < 5) : (cellsF y).setIfInBounds k (.bool true) = cellsF (bits .or .u8 y (pBit k)) := by
  have h := ((ap1_parts h0 h1).1 k hk).2.2
  unfold cellsF
  rw [h 0 (by omega), h 1 (by omega), h 2 (by omega), h 3 (by omega), h 4 (by omega)]
  match k, hk with
  | 0, _ => rfl
  | 1, _ => rfl
  | 2, _ => rfl
  | 3, _ => rfl
  | 4, _ => rfl
theorem cellsF_andNot {y : Int} (h0 : 0 ≤ y) (h1 : y < 32) (k : Nat) (hk : k < 5) : (cellsF y).setIfInBounds k (.bool false) = cellsF (bits .andNot .u8 y (pBit k)) := by
  have h := ((ap1_parts h0 h1).2.1 k hk).2.2
  unfold cellsF
  rw [h 0 (by omega), h 1 (by omega), h 2 (by omega), h 3 (by omega), h 4 (by omega)]
  match k, hk with
  | 0, _ => rfl
  | 1, _ => rfl
  | 2, _ => rfl
  | 3, _ => rfl
  | 4, _ => rfl
theorem cellsF_xor {y : Int} (h0 : 0 ≤ y) (h1 : y < 32) (k : Nat) (hk : k < 5) : (cellsF y).setIfInBounds k (.bool (!fb y k)) = cellsF (bits .xor .u8 y (pBit k)) := by
  have h := ((ap1_parts h0 h1).2.2 k hk).2.2
  unfold cellsF
  rw [h 0 (by omega), h 1 (by omega), h 2 (by omega), h 3 (by omega), h 4 (by omega)]
  match k, hk with
  | 0, _ => rfl
  | 1, _ => rfl
  | 2, _ => rfl
  | 3, _ => rfl
  | 4, _ => rfl
theorem cellsF_cell {w : World} {g : Nat} {t : TypeId} {y : Int} (h : Blk w g t (cellsF y)) :
    w.cell? ⟨g, 0, none⟩ = some (.bool (fb y 0)) ∧ w.cell? ⟨g, 1, none⟩ = some (.bool (fb y 1)) ∧ w.cell? ⟨g, 2, none⟩ = some (.bool (fb y 2)) ∧ w.cell? ⟨g, 3, none⟩ = some (.bool (fb y 3)) ∧ w.cell? ⟨g, 4, none⟩ = some (.bool (fb y 4)) :=
  ⟨h.cell 0, h.cell 1, h.cell 2, h.cell 3, h.cell 4⟩
end Go.Proofs.YtfnamfkjbkhgeaaGreatDoor

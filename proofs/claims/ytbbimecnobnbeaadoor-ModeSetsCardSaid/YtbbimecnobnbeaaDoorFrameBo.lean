/-
  A slice of bools that came in, opened.
-/
import Derived.Test.YtbbimecnobnbeaaDoorFrameG
import Derived.Deep.Grids
namespace Go.Proofs.YtbbimecnobnbeaaDoor
open Go.RowKit Go.ChangeShapes Go.WideShapes Go.Deep

theorem cellsBo : Tryd.prog.cellsOf 4 = 1 := by kernel_rfl
/-- A slice of bools that reads as a list. -/
def RBo (w : World) (A : Option Addr) (l : List Bool) : Prop := Reads w w.heap.size 1 A l.length (l.map Value.bool)
theorem RBo.next {w w' : World} {A : Option Addr} {l : List Bool} (h : RBo w A l) (hb : Below w.heap.size w w') : RBo w' A l := (Reads.below h hb).more hb.size
theorem RBo.at_ {w : World} {A : Option Addr} {l : List Bool} (h : RBo w A l) {k : Nat} (hk : k < l.length) : ∃ ad, A = some ad ∧ ad.block < w.heap.size ∧ w.cell? (ad.add k) = some (.bool l[k]) := by
  obtain ⟨ad, u, e, hb, hu, hc⟩ := Reads.at_ h hk
  refine ⟨ad, e, hb, ?_⟩
  rw [hc, ← hu]
  simp [List.getElem?_eq_getElem hk]
theorem bools_in {H : Type} {enc : TypeId × Value → H} {W : World} {b : Option Addr} {len cap : Nat} {d : DataW H} {p : List MemPlace}
    (h : DataW.Trod enc Tryd.prog W 0 (fun _ => true) true 35 (.slice b len cap) d p) : ∃ l : List Bool, len = l.length ∧ l.length ≤ maxLen ∧ RBo W b l := by
  obtain ⟨fuel, hf⟩ := h
  rcases open_bools Tryd.underlying35 Tryd.underlying4 cellsBo hf with ⟨hcs, hx⟩ | ⟨a, len', cap', B, hcs, _, hl, hm, hx, hcell⟩
  · simp [Value.cells] at hcs
    obtain ⟨rfl, rfl, rfl⟩ := hcs
    exact ⟨[], rfl, by simp, ⟨rfl, fun h => absurd h (by simp)⟩⟩
  · simp [Value.cells] at hcs
    obtain ⟨rfl, rfl, rfl⟩ := hcs
    refine ⟨(List.range len).map B, by simp, by simp; omega, by simp, fun hn => ?_⟩
    have hn' : 0 < len := by simpa using hn
    refine ⟨a, rfl, ?_, fun j u hu => ?_⟩
    · have := cell_lt (hcell 0 (by omega))
      rwa [block_of_add] at this
    · have hj : j < len := by
        rcases Nat.lt_or_ge j len with h | h
        · exact h
        · rw [List.getElem?_eq_none (by simp; omega)] at hu; cases hu
      rw [hcell j (by omega), ← hu]
      simp [hj]
end Go.Proofs.YtbbimecnobnbeaaDoor

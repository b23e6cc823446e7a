/-
  A slice of texts that came in, opened.
-/
import Derived.Test.YtnbbepkkedhhgaaDoorFrameP
import Derived.Deep.Strs
namespace Go.Proofs.YtnbbepkkedhhgaaDoor
open Go.RowKit Go.ChangeShapes Go.WideShapes Go.Deep

theorem cellsSt : Tryd.prog.cellsOf 9 = 1 := by kernel_rfl
/-- A slice of texts that reads as a list. -/
def RSt (w : World) (A : Option Addr) (l : List ByteArray) : Prop := Reads w w.heap.size 1 A l.length (l.map Value.string)
theorem RSt.next {w w' : World} {A : Option Addr} {l : List ByteArray} (h : RSt w A l) (hb : Below w.heap.size w w') : RSt w' A l := (Reads.below h hb).more hb.size
theorem RSt.at_ {w : World} {A : Option Addr} {l : List ByteArray} (h : RSt w A l) {k : Nat} (hk : k < l.length) : ∃ ad, A = some ad ∧ ad.block < w.heap.size ∧ w.cell? (ad.add k) = some (.string l[k]) := by
  obtain ⟨ad, u, e, hb, hu, hc⟩ := Reads.at_ h hk
  refine ⟨ad, e, hb, ?_⟩
  rw [hc, ← hu]
  simp [List.getElem?_eq_getElem hk]
theorem strs_in {H : Type} {enc : TypeId × Value → H} {W : World} {b : Option Addr} {len cap : Nat} {d : DataW H} {p : List MemPlace}
    (h : DataW.Trod enc Tryd.prog W 0 (fun _ => true) true 35 (.slice b len cap) d p) : ∃ l : List ByteArray, len = l.length ∧ l.length ≤ maxLen ∧ RSt W b l ∧ ∀ s ∈ l, s.size ≤ maxLen := by
  obtain ⟨fuel, hf⟩ := h
  rcases open_strs Tryd.underlying35 Tryd.underlying9 cellsSt hf with ⟨hcs, hx⟩ | ⟨a, len', cap', m, B, hcs, _, hl, hm, hmm, hx, hcell⟩
  · simp [Value.cells] at hcs
    obtain ⟨rfl, rfl, rfl⟩ := hcs
    exact ⟨[], rfl, by simp, ⟨rfl, fun h => absurd h (by simp)⟩, by simp⟩
  · simp [Value.cells] at hcs
    obtain ⟨rfl, rfl, rfl⟩ := hcs
    have hlm : len ≤ m := by rw [hmm]; split <;> omega
    refine ⟨(List.range len).map B, by simp, by simp; omega, ⟨by simp, fun hn => ?_⟩, fun s hs => ?_⟩
    · have hn' : 0 < len := by simpa using hn
      refine ⟨a, rfl, ?_, fun j u hu => ?_⟩
      · have := cell_lt (hcell 0 (by omega)).1
        rwa [block_of_add] at this
      · have hj : j < len := by
          rcases Nat.lt_or_ge j len with h | h
          · exact h
          · rw [List.getElem?_eq_none (by simp; omega)] at hu; cases hu
        rw [(hcell j (by omega)).1, ← hu]
        simp [hj]
    · obtain ⟨i, hi, rfl⟩ := List.mem_map.1 hs
      have := List.mem_range.1 hi
      exact (hcell i (by omega)).2
end Go.Proofs.YtnbbepkkedhhgaaDoor

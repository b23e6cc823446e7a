/-
  Bytes that came in, opened.
-/
import Derived.Test.YtandfpghjbbalaaDoorFrameI
namespace Go.Proofs.YtandfpghjbbalaaDoor
open Go.RowKit Go.ChangeShapes Go.WideShapes

def RBy (W : World) (b : Option Addr) (len : Nat) : Prop := ∀ i, i < len → ∃ (ad : Addr) (n : Nat), b = some ad ∧ n < 256 ∧ ad.block < W.heap.size ∧ W.cell? (ad.add i) = some (.int .u8 n)
theorem bytes_in {H : Type} {enc : TypeId × Value → H} {W : World} {b : Option Addr} {len cap : Nat} {d : DataW H} {p : List MemPlace}
    (h : DataW.Trod enc Tryd.prog W 0 (fun _ => true) true 36 (.slice b len cap) d p) : RBy W b len := by
  obtain ⟨fuel, hf⟩ := h
  rcases open_ints Tryd.underlying36 Tryd.underlying5 cellsU8 hf with ⟨hcs, hx⟩ | ⟨a, len', cap', zs, hcs, _, hl, hm, hz, hx, hcell, hwz⟩
  · simp [Value.cells] at hcs
    obtain ⟨rfl, rfl, rfl⟩ := hcs
    intro i hi
    omega
  · simp [Value.cells] at hcs
    obtain ⟨rfl, rfl, rfl⟩ := hcs
    simp at hz
    intro i hi
    have hi' : i < zs.length := by omega
    have hc := hcell i hi'
    have hw := bounds_u8 (hwz _ (List.getElem_mem hi'))
    rw [List.getD_eq_getElem?_getD, List.getElem?_eq_getElem hi'] at hc
    have hb : a.block < W.heap.size := by
      have := cell_lt hc
      rwa [block_of_add] at this
    refine ⟨a, (zs[i]).toNat, rfl, by omega, hb, ?_⟩
    rw [hc]
    congr 2
    exact (Int.toNat_of_nonneg hw.1).symm
end Go.Proofs.YtandfpghjbbalaaDoor

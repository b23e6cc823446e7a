/-
  A slice of ints that came in, opened, with its capacity.
-/
import Derived.Test.YtigaaidacndeiaaGreatDoorFrameP
namespace Go.Proofs.YtigaaidacndeiaaGreatDoor

open Go.RowKit Go.ChangeShapes Go.WideShapes

theorem ints_in2 {H : Type} {enc : TypeId × Value → H} {W : World} {b : Option Addr} {len cap : Nat} {d : DataW H} {p : List MemPlace}
    (h : DataW.Trod enc Tryz.prog W 0 (fun _ => true) true 22 (.slice b len cap) d p) (hreach : ∀ elems spare, d = .slice elems spare → (elems.length + spare.length) * Tryz.prog.bytesOf 3 ≤ reachBytes) :
    ∃ ns : List Int, len = ns.length ∧ ns.length ≤ 17592186043904 ∧ ns.length ≤ cap ∧ RInts W b ns := by
  obtain ⟨fuel, hf⟩ := h
  rcases open_ints Tryz.underlying22 Tryz.underlying3 cellsInt hf with ⟨hcs, hx⟩ | ⟨a, len', cap', zs, hcs, _, hl, hm, hz, hx, hcell, hwz⟩
  · simp [Value.cells] at hcs
    obtain ⟨rfl, rfl, rfl⟩ := hcs
    exact ⟨[], rfl, by simp, by simp, ⟨rfl, fun h => absurd h (by simp)⟩⟩
  · simp [Value.cells] at hcs
    obtain ⟨rfl, rfl, rfl⟩ := hcs
    simp at hz
    have hr := hreach _ _ (congrArg Prod.fst hx)
    rw [bytesInt] at hr
    simp [lits] at hr
    have hlz : len ≤ zs.length := by omega
    refine ⟨zs.take len, by simp [hlz], ?_, by simp; omega, ?_⟩
    · simp only [List.length_take]
      unfold reachBytes at hr
      omega
    · rcases Nat.eq_zero_or_pos len with h0 | h0
      · subst h0
        exact ⟨by simp, fun h => absurd h (by simp)⟩
      · have hb : a.block < W.heap.size := by
          have := cell_lt (hcell 0 (by omega))
          rwa [block_of_add] at this
        exact rints_in hlz hb hcell
end Go.Proofs.YtigaaidacndeiaaGreatDoor

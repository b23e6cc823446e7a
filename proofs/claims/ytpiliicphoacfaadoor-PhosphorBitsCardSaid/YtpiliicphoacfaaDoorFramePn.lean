/-
  A stream of bytes that came in.
-/
import Derived.Test.YtpiliicphoacfaaDoorFrameP
import Derived.Test.YtpiliicphoacfaaDoorTokG
import Derived.Laws.BytesArg
namespace Go.Proofs.YtpiliicphoacfaaDoor

open Go Go.RowKit Go.ChangeShapes Go.WideShapes

theorem cellsByP : Tryd.prog.cellsOf 5 = 1 := by kernel_rfl
theorem bytes_inP {H : Type} {enc : TypeId × Value → H} {W : World} {b : Option Addr} {len cap : Nat} {d : DataW H} {p : List MemPlace}
    (h : DataW.Trod enc Tryd.prog W 0 (fun _ => true) true 24 (.slice b len cap) d p) : ∃ l : List Nat, len = l.length ∧ l.length ≤ maxLen ∧ l.length ≤ cap ∧ (∀ n ∈ l, n < 256) ∧ RByt W b l := by
  obtain ⟨fuel, hf⟩ := h
  rcases open_ints Tryd.underlying24 Tryd.underlying5 cellsByP hf with ⟨hcs, hx⟩ | ⟨a, len', cap', zs, hcs, _, hl, hm, hz, hx, hcell, hwz⟩
  · simp [Value.cells] at hcs
    obtain ⟨rfl, rfl, rfl⟩ := hcs
    exact ⟨[], rfl, by simp, by simp, fun _ h => by simp at h, ⟨rfl, fun h => absurd h (by simp)⟩⟩
  · simp [Value.cells] at hcs
    obtain ⟨rfl, rfl, rfl⟩ := hcs
    simp at hz
    have hlen : ((zs.take len).map Int.toNat).length = len := by rw [List.length_map, List.length_take]; omega
    have hbz : ∀ z ∈ zs, 0 ≤ z ∧ z ≤ 255 := fun z hz2 => bounds_u8 (hwz z hz2)
    refine ⟨(zs.take len).map Int.toNat, hlen.symm, by rw [hlen]; omega, by rw [hlen]; omega, fun n hn => ?_, by simp, fun hn => ⟨a, rfl, ?_, fun j u hu => ?_⟩⟩
    · obtain ⟨z, hz2, rfl⟩ := List.mem_map.1 hn
      have := hbz z (List.mem_of_mem_take hz2)
      omega
    · rw [hlen] at hn
      have := cell_lt (hcell 0 (by omega))
      rwa [block_of_add] at this
    · have hj : j < ((zs.take len).map Int.toNat).length := by
        have := (List.getElem?_eq_some_iff.1 hu).1
        simpa using this
      rw [hlen] at hj
      have hjz : j < zs.length := by omega
      have hb := hbz zs[j] (List.getElem_mem hjz)
      rw [hcell j hjz, ← hu, List.getElem?_map, List.getElem?_map, List.getElem?_take, if_pos hj, List.getElem?_eq_getElem hjz, List.getD_eq_getElem?_getD, List.getElem?_eq_getElem hjz]
      simp only [Option.map_some, Option.getD_some]
      rw [Int.toNat_of_nonneg hb.1]
theorem RByt.takeP {w : World} {A : Option Addr} {l : List Nat} (h : RByt w A l) (n : Nat) : RByt w A (l.take n) := by
  have hle : (l.take n).length ≤ l.length := by rw [List.length_take]; omega
  refine ⟨by simp, fun hn => ?_⟩
  obtain ⟨ad, e, hb, hc⟩ := h.2 (by omega)
  refine ⟨ad, e, hb, fun j u hu => hc j u ?_⟩
  rw [List.map_take] at hu
  rw [List.getElem?_take] at hu
  split at hu
  · exact hu
  · cases hu
end Go.Proofs.YtpiliicphoacfaaDoor

/-
  Boxes: a list of numbers from a place on.
-/
import Derived.Test.YtilfhilebdkmkaaBoxC
import Derived.Test.YtilfhilebdkmkaaBoxD
namespace Go.Proofs.Ytilfhilebdkmkaa

open Go Go.RowKit

def dropP (l : List Int) (i : Int) : List Int := if i < 0 ∨ (l.length : Int) < i then [] else l.drop i.toNat
theorem rints_drop {w : World} {ad : Addr} {l : List Int} (h : RInts w (some ad) l) (k : Nat) : RInts w (some (ad.add k)) (l.drop k) := by
  refine ⟨by simp, fun hn => ?_⟩
  rw [List.length_drop] at hn
  obtain ⟨ad', e, hb, hc⟩ := h.2 (by omega)
  injection e with e
  subst e
  refine ⟨_, rfl, by rw [block_of_add]; exact hb, fun j u hu => ?_⟩
  rw [add_of_add]
  refine hc (k + j) u ?_
  rw [← hu, List.map_drop, List.getElem?_drop]
theorem rints_none (w : World) (A : Option Addr) : RInts w A [] := ⟨rfl, fun h => absurd h (by simp)⟩
/-- A slice that reads as just these numbers is answered, and nothing has turned. -/
def SlPost (A : Option Addr) (ns l : List Int) (w : World) (e : Ending) (w' : World) : Prop := ∃ A' c', e = .returned (.slice A' l.length c') ∧ (∀ W, RInts W A ns → RInts W A' l) ∧ w = w'

end Go.Proofs.Ytilfhilebdkmkaa

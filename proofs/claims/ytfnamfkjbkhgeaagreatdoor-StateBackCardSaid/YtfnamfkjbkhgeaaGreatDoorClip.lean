/-
  The walks of a number of a list, and one that is brought between two others.
-/
import Derived.Test.YtfnamfkjbkhgeaaGreatDoorGen
namespace Go.Proofs.YtfnamfkjbkhgeaaGreatDoor

open Go.RowKit

/-- Between two others. -/
def clipP (n a b : Int) : Int := max a (min n b)
theorem clip_any (n a b : Int) (w : World) :
    Calls Tryz.prog 68 #[.int .i64 n, .int .i64 a, .int .i64 b] w fun e w' => e = .returned (.int .i64 (clipP n a b)) ∧ w = w' := by
  have HC : Hid (clipP n a b = max a (min n b)) := Lib.hid rfl
  generalize clipP n a b = x at *
  go_enter Tryz.func68, Tryz.ntmps68
  go_wp2_with fail
  all_goals
    go_ret
    exact ⟨ret_int (by rw [HC.out]; omega), rfl⟩

/-- The number at a place, or what stands for it. -/
def atP (l : List Int) (i : Int) : Int := if i < 0 then 0 else l.getD i.toNat 0
def getP (l : List Int) (i d : Int) : Int := if atP l i = 0 then d else atP l i
theorem atP_out (l : List Int) (i : Int) (h : i < 0 ∨ (l.length : Int) ≤ i) : atP l i = 0 := by
  unfold atP
  split
  · rfl
  · rw [List.getD_eq_getElem?_getD, List.getElem?_eq_none (by omega)]; rfl
theorem atP_in (l : List Int) (k : Nat) (h : k < l.length) : atP l k = l[k] := by
  unfold atP
  rw [if_neg (by omega), List.getD_eq_getElem?_getD, Int.toNat_natCast, List.getElem?_eq_getElem h]; rfl


end Go.Proofs.YtfnamfkjbkhgeaaGreatDoor

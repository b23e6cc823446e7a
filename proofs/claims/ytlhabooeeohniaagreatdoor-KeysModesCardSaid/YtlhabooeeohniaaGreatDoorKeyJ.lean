/-
  Layer 22's law: five modes handed on, and nothing else of a stroke hangs on any mode.
-/
import Derived.Test.YtlhabooeeohniaaGreatDoorKeyI
namespace Go.Proofs.YtlhabooeeohniaaGreatDoor
open Go Go.RowKit

def nmK (j : Nat) : Int := match j with | 0 => 0 | 1 => 3 | 2 => 4 | 3 => 12 | _ => 13
def mixM (m o : Nat) : Nat → Nat
  | 0 => o
  | j + 1 => withN (mixM m o j) (nmK j) (hasN m (nmK j))
theorem mixM_next (m o j : Nat) : mixM m o (j + 1) = withN (mixM m o j) (nmK j) (hasN m (nmK j)) := rfl
theorem mixM_lt (m o j : Nat) (hj : 0 < j) : mixM m o j < 2 ^ 32 := by
  cases j with
  | zero => omega
  | succ j => rw [mixM_next]; exact withN_lt _ _ _
theorem mixM_has (m o : Nat) : hasN (mixM m o 5) 0 = hasN m 0 ∧ hasN (mixM m o 5) 3 = hasN m 3 ∧ hasN (mixM m o 5) 4 = hasN m 4 ∧ hasN (mixM m o 5) 12 = hasN m 12 ∧ hasN (mixM m o 5) 13 = hasN m 13 := by
  have e : mixM m o 5 = withN (withN (withN (withN (withN o 0 (hasN m 0)) 3 (hasN m 3)) 4 (hasN m 4)) 12 (hasN m 12)) 13 (hasN m 13) := rfl
  rw [e]
  simp only [hasN_with]
  have i0 : isM 0 = true := by decide
  have i3 : isM 3 = true := by decide
  have i4 : isM 4 = true := by decide
  have i12 : isM 12 = true := by decide
  have i13 : isM 13 = true := by decide
  refine ⟨?_, ?_, ?_, ?_, ?_⟩
  · rw [if_neg (by decide), if_neg (by decide), if_neg (by decide), if_neg (by decide), if_pos ⟨trivial, i0⟩]
  · rw [if_neg (by decide), if_neg (by decide), if_neg (by decide), if_pos ⟨trivial, i3⟩]
  · rw [if_neg (by decide), if_neg (by decide), if_pos ⟨trivial, i4⟩]
  · rw [if_neg (by decide), if_pos ⟨trivial, i12⟩]
  · rw [if_pos ⟨trivial, i13⟩]
theorem encP_modes (k : Int) (c : Nat) (sh ct : Bool) (m o : Nat) (lv : Int) (eg : Bool) (T : List ByteArray) : encP k c sh ct (mixM m o 5) lv eg T = encP k c sh ct m lv eg T := by
  obtain ⟨h0, h3, h4, h12, h13⟩ := mixM_has m o
  have hw : wayP c sh ct (mixM m o 5) lv eg T k.toNat = wayP c sh ct m lv eg T k.toNat := by
    unfold wayP
    rw [h3, h4, h12, h13]
  unfold encP
  rw [h0, hw]
end Go.Proofs.YtlhabooeeohniaaGreatDoor

/-
  What the laws of stops share.
-/
import Derived.Test.YtnfdgioapbkonaaDoorTabO
namespace Go.Proofs.YtnfdgioapbkonaaDoor

open Go Go.RowKit

theorem less_of (k : Int) (h : k ≤ 9223372036854775807) : Less k := fun j h1 h2 => IntWalk.i64_in _ (by omega)
theorem back_same (h : Nat → Bool) (n : Nat) (col k : Int) : (if k < 1 then nextP h n col k else backP h n col k) = backP h n col k := by
  by_cases hk : k < 1
  · rw [if_pos hk, nextP_small _ _ _ _ hk, backP_small _ _ _ _ hk]
  · rw [if_neg hk]
theorem near_in (n : Nat) (c : Int) : 0 ≤ nearP n c ∧ (0 < n → nearP n c < n) := by unfold nearP; omega
theorem next_in (h : Nat → Bool) (n : Nat) (col k : Int) : 0 ≤ nextP h n col k ∧ (0 < n → nextP h n col k < n) := by
  by_cases hk : k < 1
  · rw [nextP_small _ _ _ _ hk]; exact near_in n col
  · rcases e : nextG h col n 0 k with _ | a
    · rw [nextP_none _ _ _ _ hk e]; exact near_in n n
    · rw [nextP_some _ _ _ _ hk a e]
      have := nextG_lt h col n 0 k a e
      omega
theorem back_inT (h : Nat → Bool) (n : Nat) (col k : Int) : 0 ≤ backP h n col k ∧ (0 < n → backP h n col k < n) := by
  by_cases hk : k < 1
  · rw [backP_small _ _ _ _ hk]; exact near_in n col
  · rcases e : (leftL h col n)[(k - 1).toNat]? with _ | a
    · rw [backP_none _ _ _ _ hk e]; omega
    · rw [backP_some _ _ _ _ hk a e]
      have := leftL_lt h col n a (List.mem_of_getElem? e)
      omega
theorem stp_grown {w w' : World} {B C n : Nat} {h : Nat → Bool} (s : Stp w C n h) (hg : w.grownBy w' (some B)) (hne : C ≠ B) : Stp w' C n h :=
  let ⟨ws, h1, h2⟩ := s; ⟨ws, h1.grown hg (by simpa using hne), h2⟩
theorem PlayI.reads {w W : World} {B c : Nat} {A : Option Addr} {l : List Bool} (h : PlayI w B (.slice A l.length c) l W) : RBools W A l := OBools.reads h.own
theorem same_list (L : List Int) (hL : L.length ≤ 1000) : ∀ (A B : Option Addr) (c d : Nat) (W : World), RInts W A L → RInts W B L → Calls Tryd.prog 12 #[.slice A L.length c, .slice B L.length d] W fun e w' => e = .returned (.bool true) ∧ Below W.heap.size W w' := fun A B c d W h h' => by
  have := sameInts_any A B c d L L (by unfold maxLen; omega) (by unfold maxLen; omega) W h h'
  rw [show (L == L) = true from by simp] at this
  exact this
end Go.Proofs.YtnfdgioapbkonaaDoor

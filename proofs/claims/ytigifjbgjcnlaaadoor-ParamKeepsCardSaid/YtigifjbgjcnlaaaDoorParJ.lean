/-
  The walks of numbers that are asked for, and brought between two others.
-/
import Derived.Test.YtigifjbgjcnlaaaDoorGen
namespace Go.Proofs.YtigifjbgjcnlaaaDoor
open Go.RowKit

/-- Between two others. -/
def clipP (n a b : Int) : Int := max a (min n b)
theorem clip_any (n a b : Int) (w : World) :
    Calls Tryd.prog 24 #[.int .i64 n, .int .i64 a, .int .i64 b] w fun e w' => e = .returned (.int .i64 (clipP n a b)) ∧ w = w' := by
  have HC : Hid (clipP n a b = max a (min n b)) := Lib.hid rfl
  generalize clipP n a b = x at *
  go_enter Tryd.func24, Tryd.ntmps24
  go_wp2_with fail
  all_goals
    go_ret
    exact ⟨ret_int (by rw [HC.out]; omega), rfl⟩

/-- The number at a place, or what stands for it. -/
def atP (l : List Int) (i : Int) : Int := if i < 0 then 0 else l.getD i.toNat 0
def getP (l : List Int) (i d : Int) : Int := if atP l i = 0 then d else atP l i
theorem atP_out (l : List Int) (i : Int) (h : i < 0 ∨ (l.length : Int) ≤ i) : atP l i = 0 := by
  unfold atP
  split
  · rfl
  · rw [List.getD_eq_getElem?_getD, List.getElem?_eq_none (by omega)]; rfl
theorem atP_in (l : List Int) (k : Nat) (h : k < l.length) : atP l k = l[k] := by
  unfold atP
  rw [if_neg (by omega), List.getD_eq_getElem?_getD, Int.toNat_natCast, List.getElem?_eq_getElem h]; rfl

set_option maxHeartbeats 1000000 in
theorem raw_any (A : Option Addr) (c : Nat) (l : List Int) (i : Int) (w : World) (hr : RInts w A l) :
    Calls Tryd.prog 23 #[.slice A l.length c, .int .i64 i] w fun e w' => e = .returned (.int .i64 (atP l i)) ∧ w = w' := by
  by_cases h0 : i < 0
  · have HV := Lib.hid (atP_out l i (.inl h0))
    go_enter Tryd.func23, Tryd.ntmps23
    go_wp2_with fail
    go_ret
    exact ⟨ret_int (by rw [HV.out]), rfl⟩
  · by_cases h1 : (l.length : Int) ≤ i
    · have HV := Lib.hid (atP_out l i (.inr h1))
      have hd : decide (i < 0) = false := by simp; omega
      go_enter Tryd.func23, Tryd.ntmps23
      go_wp2_with fail
      go_ret
      exact ⟨ret_int (by rw [HV.out]), rfl⟩
    · obtain ⟨k, rfl⟩ := Int.eq_ofNat_of_zero_le (by omega : 0 ≤ i)
      have hk : k < l.length := by omega
      have HV := Lib.hid (atP_in l k hk)
      obtain ⟨ad, rfl, _, hc⟩ := hr.at_ hk
      have hd1 : decide (k ≥ l.length) = false := by simp; omega
      generalize atP l k = x at *
      go_enter Tryd.func23, Tryd.ntmps23
      go_wp2_with fail
      go_ret
      exact ⟨ret_int (by rw [HV.out]), rfl⟩

set_option maxHeartbeats 1000000 in
theorem get_any (A : Option Addr) (c : Nat) (l : List Int) (i d : Int) (w : World) (hr : RInts w A l) :
    Calls Tryd.prog 21 #[.slice A l.length c, .int .i64 i, .int .i64 d] w fun e w' => e = .returned (.int .i64 (getP l i d)) ∧ w = w' := by
  have HR := Lib.hid (raw_any A c l i w hr)
  have HG : Hid (getP l i d = if atP l i = 0 then d else atP l i) := Lib.hid rfl
  generalize getP l i d = y at *
  generalize atP l i = x at *
  by_cases hx : x = 0
  · subst hx
    go_enter Tryd.func21, Tryd.ntmps21
    go_wp2_with (go_at_call 23; refine HR.out.mono ?_; rintro e w' ⟨rfl, rfl⟩)
    go_ret
    exact ⟨ret_int (by rw [HG.out]; simp), rfl⟩
  · have hd : (x == 0) = false := by simpa using hx
    have HX := Lib.hid hx
    clear hx
    go_enter Tryd.func21, Tryd.ntmps21
    go_wp2_with (go_at_call 23; refine HR.out.mono ?_; rintro e w' ⟨rfl, rfl⟩)
    go_ret
    exact ⟨ret_int (by rw [HG.out, if_neg HX.out]), rfl⟩

set_option maxHeartbeats 1000000 in
theorem refGet_any (A : Option Addr) (c : Nat) (l : List Int) (i d : Int) (w : World) (hr : RInts w A l) :
    Calls Tryd.prog 22 #[.slice A l.length c, .int .i64 i, .int .i64 d] w fun e w' => e = .returned (.int .i64 (getP l i d)) ∧ Below w.heap.size w w' := by
  by_cases h0 : i < 0
  · have HV : Hid (getP l i d = d) := Lib.hid (by unfold getP; rw [atP_out l i (.inl h0), if_pos rfl])
    go_enter Tryd.func22, Tryd.ntmps22
    go_wp2_with fail
    go_ret
    exact ⟨ret_int (by rw [HV.out]), Below.refl _ _⟩
  · by_cases h1 : (l.length : Int) ≤ i
    · have HV : Hid (getP l i d = d) := Lib.hid (by unfold getP; rw [atP_out l i (.inr h1), if_pos rfl])
      have hd : decide (i < 0) = false := by simp; omega
      go_enter Tryd.func22, Tryd.ntmps22
      go_wp2_with fail
      go_ret
      exact ⟨ret_int (by rw [HV.out]), Below.refl _ _⟩
    · obtain ⟨k, rfl⟩ := Int.eq_ofNat_of_zero_le (by omega : 0 ≤ i)
      have hk : k < l.length := by omega
      have HA := Lib.hid (atP_in l k hk)
      obtain ⟨ad, rfl, _, hc⟩ := hr.at_ hk
      have HV : Hid (getP l k d = if l[k] = 0 then d else l[k]) := Lib.hid (by unfold getP; rw [HA.out])
      generalize getP l k d = y at *
      generalize l[k] = x at *
      have hd1 : decide (k ≥ l.length) = false := by simp; omega
      by_cases hx : x = 0
      · subst hx
        go_enter Tryd.func22, Tryd.ntmps22
        go_wp2_with fail
        go_ret
        exact ⟨ret_int (by rw [HV.out]; simp), Below.refl _ _⟩
      · have hd : (x == 0) = false := by simpa using hx
        have HX := Lib.hid hx
        clear hx
        go_enter Tryd.func22, Tryd.ntmps22
        go_wp2_with fail
        go_ret
        exact ⟨ret_int (by rw [HV.out, if_neg HX.out]), Below.refl _ _⟩
end Go.Proofs.YtigifjbgjcnlaaaDoor

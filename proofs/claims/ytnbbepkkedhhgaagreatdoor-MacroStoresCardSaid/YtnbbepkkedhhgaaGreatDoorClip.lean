/-
  The walks of a number of a list, and one that is brought between two others.
-/
import Derived.Test.YtnbbepkkedhhgaaGreatDoorGen
namespace Go.Proofs.YtnbbepkkedhhgaaGreatDoor

open Go.RowKit

/-- Between two others. -/
def clipP (n a b : Int) : Int := max a (min n b)

/-- The number at a place, or what stands for it. -/
def atP (l : List Int) (i : Int) : Int := if i < 0 then 0 else l.getD i.toNat 0
def getP (l : List Int) (i d : Int) : Int := if atP l i = 0 then d else atP l i
theorem atP_out (l : List Int) (i : Int) (h : i < 0 ∨ (l.length : Int) ≤ i) : atP l i = 0 := by
  unfold atP
  split
  · rfl
  · rw [List.getD_eq_getElem?_getD, List.getElem?_eq_none (by omega)]; rfl
theorem atP_in (l : List Int) (k : Nat) (h : k < l.length) : atP l k = l[k] := by
  unfold atP
  rw [if_neg (by omega), List.getD_eq_getElem?_getD, Int.toNat_natCast, List.getElem?_eq_getElem h]; rfl

set_option maxHeartbeats 1000000 in
theorem raw_any (A : Option Addr) (c : Nat) (l : List Int) (i : Int) (w : World) (hr : RInts w A l) :
    Calls Tryz.prog 55 #[.slice A l.length c, .int .i64 i] w fun e w' => e = .returned (.int .i64 (atP l i)) ∧ w = w' := by
  by_cases h0 : i < 0
  · have HV := Lib.hid (atP_out l i (.inl h0))
    go_enter Tryz.func55, Tryz.ntmps55
    go_wp2_with fail
    go_ret
    exact ⟨ret_int (by rw [HV.out]), rfl⟩
  · by_cases h1 : (l.length : Int) ≤ i
    · have HV := Lib.hid (atP_out l i (.inr h1))
      have hd : decide (i < 0) = false := by simp; omega
      go_enter Tryz.func55, Tryz.ntmps55
      go_wp2_with fail
      go_ret
      exact ⟨ret_int (by rw [HV.out]), rfl⟩
    · obtain ⟨k, rfl⟩ := Int.eq_ofNat_of_zero_le (by omega : 0 ≤ i)
      have hk : k < l.length := by omega
      have HV := Lib.hid (atP_in l k hk)
      obtain ⟨ad, rfl, _, hc⟩ := hr.at_ hk
      have hd1 : decide (k ≥ l.length) = false := by simp; omega
      generalize atP l k = x at *
      go_enter Tryz.func55, Tryz.ntmps55
      go_wp2_with fail
      go_ret
      exact ⟨ret_int (by rw [HV.out]), rfl⟩
end Go.Proofs.YtnbbepkkedhhgaaGreatDoor

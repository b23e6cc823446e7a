/-
  The walks of numbers that are asked for.
-/
import Derived.Test.YtnbbepkkedhhgaaGreatDoorClip
namespace Go.Proofs.YtnbbepkkedhhgaaGreatDoor

open Go.RowKit

set_option maxHeartbeats 1000000 in
theorem get_any (A : Option Addr) (c : Nat) (l : List Int) (i d : Int) (w : World) (hr : RInts w A l) :
    Calls Tryz.prog 37 #[.slice A l.length c, .int .i64 i, .int .i64 d] w fun e w' => e = .returned (.int .i64 (getP l i d)) ∧ w = w' := by
  have HR := Lib.hid (raw_any A c l i w hr)
  have HG : Hid (getP l i d = if atP l i = 0 then d else atP l i) := Lib.hid rfl
  generalize getP l i d = y at *
  generalize atP l i = x at *
  by_cases hx : x = 0
  · subst hx
    go_enter Tryz.func37, Tryz.ntmps37
    go_wp2_with (go_at_call 55; refine HR.out.mono ?_; rintro e w' ⟨rfl, rfl⟩)
    go_ret
    exact ⟨ret_int (by rw [HG.out]; simp), rfl⟩
  · have hd : (x == 0) = false := by simpa using hx
    have HX := Lib.hid hx
    clear hx
    go_enter Tryz.func37, Tryz.ntmps37
    go_wp2_with (go_at_call 55; refine HR.out.mono ?_; rintro e w' ⟨rfl, rfl⟩)
    go_ret
    exact ⟨ret_int (by rw [HG.out, if_neg HX.out]), rfl⟩


end Go.Proofs.YtnbbepkkedhhgaaGreatDoor

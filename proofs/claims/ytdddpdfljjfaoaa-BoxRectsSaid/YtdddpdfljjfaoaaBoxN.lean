/-
  Boxes, the document's own answers: a number of a list; a place that numbers tell.
-/
import Derived.Test.YtdddpdfljjfaoaaBoxK
import Derived.Test.YtdddpdfljjfaoaaBoxJ
namespace Go.Proofs.Ytdddpdfljjfaoaa
open Go Go.RowKit

theorem atP_nil (k : Int) : atP [] k = 0 := atP_out [] k (by simp; omega)
set_option maxHeartbeats 2000000 in
theorem number_any (A : Option Addr) (c : Nat) (l : List Int) (hm : l.length ≤ 17592186043904) (i : Int) (h0 : -9223372036854775808 ≤ i) (h1 : i ≤ 9223372036854775807) (k : Nat) (hk : k ≤ 3) (w : World) (hr : RInts w A l) :
    Calls Try.prog 41 #[.slice A l.length c, .int .i64 i, .int .i64 k] w fun e w' => e = .returned (.int .i64 (atP (dropP l i) k)) ∧ w = w' := by
  by_cases g0 : i < 0
  · rw [show dropP l i = [] from if_pos (.inl g0), atP_nil]
    go_enter Try.func41, Try.ntmps41
    go_wp2_with fail
    go_ret
    exact ⟨rfl, rfl⟩
  · obtain ⟨m, rfl⟩ := Int.eq_ofNat_of_zero_le (by omega : 0 ≤ i)
    have gd : decide ((m : Int) < 0) = false := by simp <;> omega
    by_cases g1 : l.length ≤ m
    · have e : atP (dropP l m) k = 0 := by
        unfold dropP
        split
        · exact atP_nil _
        · rw [List.drop_eq_nil_of_le (by omega)]; exact atP_nil _
      rw [e]
      have gd1 : decide (m ≥ l.length) = true := by simpa using g1
      clear e h0 h1
      go_enter Try.func41, Try.ntmps41
      go_wp2_with fail
      go_ret
      exact ⟨rfl, rfl⟩
    · have gd1 : decide (m ≥ l.length) = false := by simpa using g1
      have hdr : dropP l m = l.drop m := by unfold dropP; rw [if_neg (by omega)]; simp
      by_cases g2 : (l.length : Int) - m ≤ k
      · have e : atP (dropP l m) k = 0 := by rw [hdr]; exact atP_out _ _ (.inr (by rw [List.length_drop]; omega))
        rw [e]
        clear e h0 h1 hdr
        go_enter Try.func41, Try.ntmps41
        go_wp2_with fail
        go_ret
        exact ⟨rfl, rfl⟩
      · have hin : m + k < l.length := by omega
        have e : atP (dropP l m) k = l[m + k] := by
          rw [hdr, atP_in _ _ (by rw [List.length_drop]; omega), List.getElem_drop]
        rw [e]
        have gd2 : decide ((l.length : Int) - m ≤ k) = false := by simp; omega
        obtain ⟨ad, rfl, _, hc⟩ := hr.at_ hin
        have e1 : ((m : Int) + k).toNat = m + k := by omega
        have e2 : (m : Int) + k < l.length := by omega
        clear e h0 h1 hdr
        generalize l[m + k] = x at *
        go_enter Try.func41, Try.ntmps41
        go_wp2_with fail
        go_ret
        exact ⟨rfl, rfl⟩

theorem near_clip (n a b : Int) (h : a < b) : nearP n a b = clipP n a (b - 1) := by
  unfold nearP clipP
  split
  · omega
  · split <;> omega
end Go.Proofs.Ytdddpdfljjfaoaa

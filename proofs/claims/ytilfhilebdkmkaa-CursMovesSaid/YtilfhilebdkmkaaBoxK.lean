/-
  Boxes, the document's own answers: the small ones.
-/
import Derived.Test.YtilfhilebdkmkaaBoxD
namespace Go.Proofs.Ytilfhilebdkmkaa

open Go Go.RowKit

set_option maxHeartbeats 2000000 in
theorem refEmpty_any (t l b r : Int) (w : World) :
    Calls Try.prog 40 #[bV t l b r] w fun e w' => e = .returned (.bool (bEm t l b r)) ∧ Below w.heap.size w w' := by
  have HV : Hid (bEm t l b r = (decide (b ≤ t) || decide (r ≤ l))) := Lib.hid rfl
  generalize bEm t l b r = v at *
  unfold bV
  have HB := Lib.hid (new1 w 29 (bC t l b r)).2
  by_cases h : b ≤ t
  · obtain rfl : v = true := by rw [HV.out]; simp [h]
    clear HV
    go_enter Try.func40, Try.ntmps40
    go_wp2_with fail
    go_ret
    exact ⟨rfl, HB.out⟩
  · have hd : decide (b ≤ t) = false := by simpa using h
    by_cases h2 : r ≤ l
    · obtain rfl : v = true := by rw [HV.out]; simp [h2]
      clear HV
      go_enter Try.func40, Try.ntmps40
      go_wp2_with fail
      go_ret
      exact ⟨by first | rfl | simp, HB.out⟩
    · obtain rfl : v = false := by rw [HV.out]; simp [h, h2] <;> omega
      have hd2 : decide (r ≤ l) = false := by simpa using h2
      clear HV
      go_enter Try.func40, Try.ntmps40
      go_wp2_with fail
      go_ret
      exact ⟨by first | rfl | simp, HB.out⟩

set_option maxHeartbeats 2000000 in
theorem refIn_any (t l b r p q : Int) (w : World) :
    Calls Try.prog 24 #[bV t l b r, .int .i64 p, .int .i64 q] w fun e w' => e = .returned (.bool (inB t l b r p q)) ∧ Below w.heap.size w w' := by
  have HV : Hid (inB t l b r p q = ((decide (t ≤ p) && decide (p < b)) && (decide (l ≤ q) && decide (q < r)))) := Lib.hid rfl
  generalize inB t l b r p q = v at *
  unfold bV
  have HB := Lib.hid (new1 w 29 (bC t l b r)).2
  have hcs : (v = false ∧ p < t) ∨ (v = false ∧ t ≤ p ∧ b ≤ p) ∨ (v = false ∧ t ≤ p ∧ p < b ∧ q < l) ∨ (v = false ∧ t ≤ p ∧ p < b ∧ l ≤ q ∧ r ≤ q) ∨ (v = true ∧ t ≤ p ∧ p < b ∧ l ≤ q ∧ q < r) := by
    rw [HV.out]
    by_cases h1 : t ≤ p <;> by_cases h2 : p < b <;> by_cases h3 : l ≤ q <;> by_cases h4 : q < r <;> simp [h1, h2, h3, h4] <;> omega
  clear HV
  rcases hcs with ⟨rfl, h⟩ | ⟨rfl, h1, h⟩ | ⟨rfl, h1, h2, h⟩ | ⟨rfl, h1, h2, h3, h⟩ | ⟨rfl, h1, h2, h3, h⟩
  all_goals
    go_enter Try.func24, Try.ntmps24
    go_wp2_with fail
    go_ret
    exact ⟨by first | rfl | (simp; try omega), HB.out⟩

def nearP (n f b : Int) : Int := if n < f then f else if b ≤ n then b - 1 else n
theorem near_any (n f b : Int) (h0 : -9223372036854775808 ≤ b - 1) (h1 : b - 1 ≤ 9223372036854775807) (w : World) :
    Calls Try.prog 56 #[.int .i64 n, .int .i64 f, .int .i64 b] w fun e w' => e = .returned (.int .i64 (nearP n f b)) ∧ w = w' := by
  have hcs : (n < f ∧ nearP n f b = f) ∨ (¬ n < f ∧ b ≤ n ∧ nearP n f b = b - 1) ∨ (¬ n < f ∧ ¬ b ≤ n ∧ nearP n f b = n) := by
    unfold nearP
    by_cases g : n < f
    · exact .inl ⟨g, if_pos g⟩
    · by_cases g2 : b ≤ n
      · exact .inr (.inl ⟨g, g2, by rw [if_neg g, if_pos g2]⟩)
      · exact .inr (.inr ⟨g, g2, by rw [if_neg g, if_neg g2]⟩)
  rcases hcs with ⟨g, e⟩ | ⟨g, g2, e⟩ | ⟨g, g2, e⟩
  all_goals
    rw [e]
    clear e
    go_enter Try.func56, Try.ntmps56
    go_wp2_with fail
    go_ret
    exact ⟨rfl, rfl⟩
end Go.Proofs.Ytilfhilebdkmkaa

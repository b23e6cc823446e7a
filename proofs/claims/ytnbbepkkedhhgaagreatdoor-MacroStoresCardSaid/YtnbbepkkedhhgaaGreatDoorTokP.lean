/-
  Tokens: both checks answer the same. Plain facts.
-/
import Derived.Test.YtnbbepkkedhhgaaGreatDoorTokO
namespace Go.Proofs.YtnbbepkkedhhgaaGreatDoor

open Go Go.RowKit

theorem bstr_nil (dt : List Nat) : decide (bstr dt = bstr []) = decide (dt.length = 0) := by
  rw [Bool.eq_iff_iff, decide_eq_true_iff, decide_eq_true_iff]
  constructor
  · intro h
    have := congrArg ByteArray.size h
    rw [bstr_size, bstr_size] at this
    exact this
  · intro h
    rw [List.length_eq_zero_iff.1 h]
theorem str_nil (s : ByteArray) : (s.toList == (ByteArray.mk #[]).toList) = decide (s.size = 0) := by
  rw [ByteArray.toList_eq, ByteArray.toList_eq, ← dlen]
  cases s.data.toList <;> simp
theorem ints_nil (ps : List Int) : (ps == []) = decide (ps.length = 0) := by
  cases ps <;> simp
theorem pos_dec (n : Nat) : decide (0 < n) = !decide (n = 0) := by
  by_cases h : n = 0
  · subst h; rfl
  · rw [decide_eq_false h, decide_eq_true (by omega)]; rfl
theorem mcast (m : Nat) : ((m : Int) == 0) = !(m != 0) := by
  rw [Bool.eq_iff_iff]
  simp
theorem same_zero (k c m : Int) (ps : List Int) (s : ByteArray) (dt : List Nat) : sameQ k c m ps s dt k 0 0 [] (ByteArray.mk #[]) [] = ((c == 0) && ((m == 0) && (decide (s.size = 0) && (decide (ps.length = 0) && decide (dt.length = 0))))) := by
  unfold sameQ
  rw [bstr_nil, str_nil, ints_nil]
  simp
theorem pure_late (k : Int) (h1 : 1 ≤ k) (h9 : k ≤ 9) (c m : Nat) (ps : List Int) (s : ByteArray) (dt : List Nat) : (pureB k c m ps s dt && codedB k c s) = (codeQ k c s && !lateB k m ps s dt) := by
  unfold pureB lateB
  rw [code_same, pos_dec, pos_dec]
  simp only [same_zero, mcast]
  have hc : (c == 0) = !(c != 0) := by cases h : (c == 0) <;> simp [bne, h]
  rw [hc]
  have hs : k = 1 ∨ k = 2 ∨ k = 3 ∨ k = 4 ∨ k = 5 ∨ k = 6 ∨ k = 7 ∨ k = 8 ∨ k = 9 := by omega
  rcases hs with rfl | rfl | rfl | rfl | rfl | h
  · generalize codedB 1 c s = q
    cases q <;> cases (m != 0) <;> cases decide (s.size = 0) <;> cases decide (ps.length = 0) <;> cases decide (dt.length = 0) <;> rfl
  · generalize codedB 2 c s = q
    cases q <;> cases (m != 0) <;> cases decide (s.size = 0) <;> cases decide (ps.length = 0) <;> cases decide (dt.length = 0) <;> rfl
  · generalize codedB 3 c s = q
    cases q <;> cases (m != 0) <;> cases decide (s.size = 0) <;> cases decide (ps.length = 0) <;> cases decide (dt.length = 0) <;> rfl
  · generalize codedB 4 c s = q
    cases q <;> cases (m != 0) <;> cases decide (s.size = 0) <;> cases decide (ps.length = 0) <;> cases decide (dt.length = 0) <;> rfl
  · generalize codedB 5 c s = q
    cases q <;> cases (m != 0) <;> cases decide (s.size = 0) <;> cases decide (ps.length = 0) <;> cases decide (dt.length = 0) <;> rfl
  · have ec : codedB k c s = true := by
      unfold codedB
      rw [if_neg (by omega), if_neg (by omega), if_neg (by omega), if_neg (by omega)]
    rw [ec]
    rcases h with rfl | rfl | rfl | rfl
    all_goals
      cases (c != 0) <;> cases (m != 0) <;> cases decide (s.size = 0) <;> cases decide (ps.length = 0) <;> cases decide (dt.length = 0) <;> rfl
theorem out_rng (n : Int) : outB n = !rngB n := by
  unfold outB rngB clipP
  rw [Bool.eq_iff_iff]
  simp
  omega
theorem any_not {α : Type} (f g : α → Bool) (h : ∀ x, f x = !g x) : ∀ l : List α, l.any f = !l.all g
  | [] => rfl
  | x :: l => by rw [List.any_cons, List.all_cons, h, any_not f g h l, Bool.not_and]
theorem chk_same (k : Int) (c m : Nat) (ps : List Int) (s : ByteArray) (dt : List Nat) : refChkP k c m ps s dt = checkP k c m ps s dt := by
  unfold refChkP checkP
  by_cases hk : k < 1 ∨ 9 < k
  · rw [if_pos hk]
    have : (decide (k < 1) || decide (9 < k)) = true := by simpa using hk
    rw [this]
    rfl
  · rw [if_neg hk]
    have e : (decide (k < 1) || decide (9 < k)) = false := by simp; omega
    rw [e]
    have hpl := pure_late k (by omega) (by omega) c m ps s dt
    have hsm : smallB ps s dt = (!(decide (3 < s.size) || (decide (30 < ps.length) || decide (4096 < dt.length))) && ps.all rngB) := by
      unfold smallB
      rw [any_not outB rngB out_rng ps]
      have q1 : decide (s.size ≤ 3) = !decide (3 < s.size) := by rw [Bool.eq_iff_iff]; simp
      have q2 : decide (ps.length ≤ 30) = !decide (30 < ps.length) := by rw [Bool.eq_iff_iff]; simp
      have q3 : decide (dt.length ≤ 4096) = !decide (4096 < dt.length) := by rw [Bool.eq_iff_iff]; simp
      rw [q1, q2, q3]
      cases decide (3 < s.size) <;> cases decide (30 < ps.length) <;> cases decide (4096 < dt.length) <;> cases ps.all rngB <;> rfl
    have hwr : writtenB m s dt = (!((m != 0) && (decide (m < 60) || decide (63 < m))) && (s.data.toList.all interB && dt.all dataB)) := by
      unfold writtenB amongB
      rw [any_not noDataB dataB noData_eq dt]
      have q1 : decide (60 ≤ m) = !decide (m < 60) := by rw [Bool.eq_iff_iff]; simp
      have q2 : decide (m ≤ 63) = !decide (63 < m) := by rw [Bool.eq_iff_iff]; simp
      have q3 : (m == 0) = !(m != 0) := by cases h : (m == 0) <;> simp [bne, h]
      rw [q1, q2, q3]
      cases (m != 0) <;> cases decide (m < 60) <;> cases decide (63 < m) <;> cases s.data.toList.all interB <;> cases dt.all dataB <;> rfl
    have h3 : (pureB k c m ps s dt && (codedB k c s && writtenB m s dt)) = ((codeQ k c s && !lateB k m ps s dt) && writtenB m s dt) := by rw [← hpl, Bool.and_assoc]
    rw [h3, hsm, hwr]
    cases (decide (3 < s.size) || (decide (30 < ps.length) || decide (4096 < dt.length))) <;> cases ps.all rngB <;> cases s.data.toList.all interB <;> cases dt.all dataB <;> cases codeQ k c s <;> cases ((m != 0) && (decide (m < 60) || decide (63 < m))) <;> cases lateB k m ps s dt <;> rfl
end Go.Proofs.YtnbbepkkedhhgaaGreatDoor

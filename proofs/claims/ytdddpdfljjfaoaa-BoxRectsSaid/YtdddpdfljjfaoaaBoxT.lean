/-
  Boxes: plain facts for the statements.
-/
import Derived.Test.YtdddpdfljjfaoaaBoxS
namespace Go.Proofs.Ytdddpdfljjfaoaa
open Go Go.RowKit

theorem bEm_of (t l b r : Int) : bEm t l b r = (decide (b ≤ t) || decide (r ≤ l)) := rfl
theorem meetT_comm (t l b r t' l' b' r' : Int) : meetT t' l' b' r' t l b r = meetT t l b r t' l' b' r' := by
  unfold meetT
  rw [show max t' t = max t t' from by omega, show max l' l = max l l' from by omega, show min b' b = min b b' from by omega, show min r' r = min r r' from by omega]
theorem meetT_cases (t l b r t' l' b' r' : Int) :
    (bEm (max t t') (max l l') (min b b') (min r r') = true ∧ meetT t l b r t' l' b' r' = (0, 0, 0, 0)) ∨
    (bEm (max t t') (max l l') (min b b') (min r r') = false ∧ meetT t l b r t' l' b' r' = (max t t', max l l', min b b', min r r')) := by
  unfold meetT
  cases h : bEm (max t t') (max l l') (min b b') (min r r')
  · exact .inr ⟨rfl, if_neg (by simp)⟩
  · exact .inl ⟨rfl, if_pos rfl⟩
theorem meetT_again (t l b r t' l' b' r' x y u v : Int) (h : meetT t l b r t' l' b' r' = (x, y, u, v)) : meetT x y u v t l b r = (x, y, u, v) := by
  rcases meetT_cases t l b r t' l' b' r' with ⟨g, e⟩ | ⟨g, e⟩
  · rw [e] at h
    injection h with h1 h
    injection h with h2 h
    injection h with h3 h4
    subst h1 h2 h3 h4
    rcases meetT_cases 0 0 0 0 t l b r with ⟨_, e'⟩ | ⟨g', _⟩
    · exact e'
    · obtain ⟨a, b'⟩ := bEm_false g'; omega
  · rw [e] at h
    injection h with h1 h
    injection h with h2 h
    injection h with h3 h4
    obtain ⟨a1, a2⟩ := bEm_false g
    unfold meetT
    have e1 : max x t = x := by omega
    have e2 : max y l = y := by omega
    have e3 : min u b = u := by omega
    have e4 : min v r = v := by omega
    rw [e1, e2, e3, e4, if_neg]
    rw [h1, h2, h3, h4] at g
    rw [g]; simp
/-- What two boxes have in common is empty, or has just the places of both. -/
theorem meetT_in (t l b r t' l' b' r' x y u v p q : Int) (h : meetT t l b r t' l' b' r' = (x, y, u, v)) :
    (bEm x y u v = true → (inB t l b r p q && inB t' l' b' r' p q) = false) ∧ (bEm x y u v = false → inB x y u v p q = (inB t l b r p q && inB t' l' b' r' p q)) := by
  rcases meetT_cases t l b r t' l' b' r' with ⟨g, e⟩ | ⟨g, e⟩
  · rw [e] at h
    injection h with h1 h
    injection h with h2 h
    injection h with h3 h4
    subst h1 h2 h3 h4
    refine ⟨fun _ => ?_, fun h0 => by obtain ⟨a, _⟩ := bEm_false h0; omega⟩
    have g' := bEm_true g
    rw [Bool.and_eq_false_iff]
    by_cases c : inB t l b r p q = true
    · right
      rw [Bool.eq_false_iff]
      intro c'
      rw [inB_iff] at c c'
      omega
    · left; simpa using c
  · rw [e] at h
    injection h with h1 h
    injection h with h2 h
    injection h with h3 h4
    rw [h1, h2, h3, h4] at g
    refine ⟨(fun h0 => by rw [g] at h0; cases h0), fun _ => ?_⟩
    rw [Bool.eq_iff_iff, Bool.and_eq_true, inB_iff, inB_iff, inB_iff]
    omega
theorem clampT_in (t l b r p q x y : Int) (h : clampT t l b r p q = (x, y)) (he : bEm t l b r = false) : inB t l b r x y = true ∧ eqB2 x y p q = inB t l b r p q := by
  obtain ⟨g1, g2⟩ := bEm_false he
  unfold clampT at h
  rw [he] at h
  simp only [Bool.false_eq_true, if_false] at h
  injection h with h1 h2
  have c1 : x = max t (min p (b - 1)) := h1.symm
  have c2 : y = max l (min q (r - 1)) := h2.symm
  refine ⟨by rw [inB_iff]; omega, ?_⟩
  unfold eqB2
  rw [Bool.eq_iff_iff, inB_iff, Bool.and_eq_true, beq_iff_eq, beq_iff_eq]
  omega
end Go.Proofs.Ytdddpdfljjfaoaa

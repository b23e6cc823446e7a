/-
  Boxes: the program's answers are the document's (plain).
-/
import Derived.Test.YtdddpdfljjfaoaaBoxQ
import Derived.Test.YtdddpdfljjfaoaaBoxL
import Derived.Test.YtdddpdfljjfaoaaBoxO
namespace Go.Proofs.Ytdddpdfljjfaoaa
open Go Go.RowKit

theorem span_eq (n first last : Int) : spanT n first last = refSpanT n first last := by
  have hu : refSpanT n first last = if first < 0 ∨ last < 0 ∨ n < 2 then (0, 0, false) else if (if first = 0 then 1 else first) < (if last = 0 ∨ n < last then n else last) then ((if first = 0 then 1 else first) - 1, (if last = 0 ∨ n < last then n else last), true) else (0, 0, false) := rfl
  unfold spanT
  rcases part_cases 0 n first last with ⟨g, e⟩ | ⟨g, g', e⟩ | ⟨g, g', F, hF, ⟨h, e⟩ | ⟨h, h', _, y, hy, ⟨h3, e⟩ | ⟨h3, e⟩⟩⟩
  · rw [e, hu, if_pos (.inl rfl), if_pos (.inl g)]
  · rw [e, hu, if_pos (.inl rfl), if_pos (.inr (.inl g'))]
  · have hn : n < F := by unfold cntP at h; split at h <;> omega
    rw [e, hu, if_pos (.inl rfl)]
    by_cases h2 : n < 2
    · rw [if_pos (.inr (.inr h2))]
    · rw [if_neg (by omega), if_neg]
      by_cases a : first = 0
      · omega
      · rw [if_neg a]
        by_cases b : last = 0 ∨ n < last
        · rw [if_pos b]; omega
        · rw [if_neg b]; omega
  · rw [e, hu, if_pos (.inl rfl)]
    by_cases h2 : n < 2
    · rw [if_pos (.inr (.inr h2))]
    · rw [if_neg (by omega), if_neg]
      by_cases a : first = 0
      · rw [if_pos a]
        by_cases b : last = 0 ∨ n < last
        · rw [if_pos b]; omega
        · rw [if_neg b]; omega
      · rw [if_neg a]
        by_cases b : last = 0 ∨ n < last
        · rw [if_pos b]; omega
        · rw [if_neg b]; omega
  · rw [e, hu]
    have hc : cntP (0 + F - 1) y = y - (0 + F - 1) := if_neg (by omega)
    by_cases h2 : n < 2
    · rw [if_pos (show (0 + F - 1, y, true).2.2 = false ∨ cntP (0 + F - 1, y, true).1 (0 + F - 1, y, true).2.1 < 2 from .inr (by show cntP (0 + F - 1) y < 2; rw [hc]; omega)), if_pos (show first < 0 ∨ last < 0 ∨ n < 2 from .inr (.inr h2))]
    · rw [if_neg (by omega : ¬ (first < 0 ∨ last < 0 ∨ n < 2))]
      have hf : (if first = 0 then 1 else first) = F := by
        by_cases a : first = 0
        · rw [if_pos a]; omega
        · rw [if_neg a]; omega
      have hl : (if last = 0 ∨ n < last then n else last) = y := by
        by_cases b : last = 0 ∨ n < last
        · rw [if_pos b]; omega
        · rw [if_neg b]; omega
      rw [hf, hl]
      by_cases h4 : F < y
      · rw [if_pos h4, if_neg]
        · simp only [Prod.mk.injEq, and_true]; omega
        · rintro (h | h)
          · cases h
          · have h' : cntP (0 + F - 1) y < 2 := h
            rw [hc] at h'; omega
      · rw [if_neg h4, if_pos]
        right
        show cntP (0 + F - 1) y < 2
        rw [hc]; omega
theorem spanT_in (n first last : Int) (h : (spanT n first last).2.2 = true) : 0 ≤ (spanT n first last).1 ∧ (spanT n first last).1 + 1 < (spanT n first last).2.1 ∧ (spanT n first last).2.1 ≤ n := by
  unfold spanT at h ⊢
  split at h
  · cases h
  · rename_i hn
    rw [if_neg hn]
    have hok : (partT 0 n first last).2.2 = true := by
      cases hh : (partT 0 n first last).2.2
      · exact absurd (.inl hh) hn
      · rfl
    obtain ⟨g1, g2, g3⟩ := partT_in 0 n first last hok
    have hc : cntP (partT 0 n first last).1 (partT 0 n first last).2.1 = (partT 0 n first last).2.1 - (partT 0 n first last).1 := if_neg (by omega)
    refine ⟨g1, ?_, g3⟩
    show (partT 0 n first last).1 + 1 < (partT 0 n first last).2.1
    have : ¬ cntP (partT 0 n first last).1 (partT 0 n first last).2.1 < 2 := fun h => hn (.inr h)
    omega
theorem meet_eq (t l b r t' l' b' r' : Int) : meetT t l b r t' l' b' r' = refMeetT t l b r t' l' b' r' := by
  unfold meetT refMeetT
  by_cases h : bEm (max t t') (max l l') (min b b') (min r r') = true
  · rw [if_pos h, if_pos (by rw [h]; simp)]
  · have hf : bEm (max t t') (max l l') (min b b') (min r r') = false := by simpa using h
    obtain ⟨g1, g2⟩ := bEm_false hf
    have e1 : bEm t l b r = false := by unfold bEm emB; simp; omega
    have e2 : bEm t' l' b' r' = false := by unfold bEm emB; simp; omega
    rw [if_neg h, e1, e2, hf]
    simp
theorem clamp_eq (t l b r p q : Int) : clampT t l b r p q = refClampT t l b r p q := by
  unfold clampT refClampT
  cases h : bEm t l b r
  · obtain ⟨g1, g2⟩ := bEm_false h
    simp only [Bool.false_eq_true, if_false, near_clip _ _ _ g1, near_clip _ _ _ g2]
  · simp
theorem place_eq (t l b r : Int) (ns : List Int) (i : Int) : placeT t l b r ns i = refPlaceT t l b r ns i := by
  unfold placeT placeQ refPlaceT
  cases h : bEm t l b r
  · obtain ⟨g1, g2⟩ := bEm_false h
    simp only [Bool.false_eq_true, if_false]
    rw [near_clip _ _ _ (by omega), near_clip _ _ _ (by omega), show b - t + 1 - 1 = b - t from by omega, show r - l + 1 - 1 = r - l from by omega]
    rfl
  · simp
theorem clip_in (n a b : Int) (h : a ≤ b) : a ≤ clipP n a b ∧ clipP n a b ≤ b := by unfold clipP; omega
theorem sm_of (t l b r : Int) (h : smB t l b r = true) : Sm t ∧ Sm l ∧ Sm b ∧ Sm r := by
  unfold smB smN at h
  simp at h
  unfold Sm
  omega
theorem inB_iff (t l b r p q : Int) : inB t l b r p q = true ↔ (t ≤ p ∧ p < b) ∧ (l ≤ q ∧ q < r) := by
  unfold inB hasB; simp
theorem placeT_in (t l b r : Int) (ns : List Int) (i : Int) (h : bEm t l b r = false) : inB t l b r (placeT t l b r ns i).1 (placeT t l b r ns i).2 = true := by
  obtain ⟨g1, g2⟩ := bEm_false h
  unfold placeT placeQ
  rw [h, inB_iff]
  simp only [Bool.false_eq_true, if_false]
  have h1 := clip_in (atP (dropP ns i) 0) 1 (b - t) (by omega)
  have h2 := clip_in (atP (dropP ns i) 1) 1 (r - l) (by omega)
  omega
end Go.Proofs.Ytdddpdfljjfaoaa

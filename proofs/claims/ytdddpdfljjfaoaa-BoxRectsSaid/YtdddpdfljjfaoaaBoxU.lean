/-
  Boxes: plain facts for the statements, more; a number brought between two others, as the document has it.
-/
import Derived.Test.YtdddpdfljjfaoaaBoxT
namespace Go.Proofs.Ytdddpdfljjfaoaa
open Go Go.RowKit

theorem partT_again (f b first last x y : Int) (h : partT f b first last = (x, y, true)) : partT f b (x - f + 1) (y - f) = (x, y, true) := by
  have hin := partT_in f b first last (by rw [h])
  rw [h] at hin
  simp only at hin
  obtain ⟨h1, h2, h3⟩ := hin
  rcases part_cases f b (x - f + 1) (y - f) with ⟨g, _⟩ | ⟨_, g, _⟩ | ⟨_, _, F, hF, ⟨g, _⟩ | ⟨_, _, _, z, hz, ⟨g, _⟩ | ⟨g, e⟩⟩⟩
  · omega
  · omega
  · have : cntP f b = b - f := if_neg (by omega)
    omega
  · omega
  · rw [e]
    simp only [Prod.mk.injEq, and_true]
    omega
theorem spanT_part (n first last a z : Int) (h : spanT n first last = (a, z, true)) : partT 0 n first last = (a, z, true) ∧ ¬ cntP a z < 2 := by
  unfold spanT at h
  split at h
  · injection h with _ h; injection h with _ h; cases h
  · rename_i hn
    have hok : (partT 0 n first last).2.2 = true := by
      cases hh : (partT 0 n first last).2.2
      · exact absurd (.inl hh) hn
      · rfl
    injection h with h1 h
    injection h with h2 h3
    refine ⟨?_, ?_⟩
    · rw [← h1, ← h2, ← hok]
    · rw [← h1, ← h2]; exact fun hc => hn (.inr hc)
theorem spanT_again (n first last a z : Int) (h : spanT n first last = (a, z, true)) : spanT n (a + 1) z = (a, z, true) := by
  obtain ⟨h1, h2⟩ := spanT_part n first last a z h
  have h3 := partT_again 0 n first last a z h1
  rw [show a - 0 + 1 = a + 1 from by omega, show z - 0 = z from by omega] at h3
  unfold spanT
  rw [h3, if_neg]
  rintro (h | h)
  · cases h
  · exact h2 h
theorem rectQ_ok (t l b r n0 n1 n2 n3 x1 x2 y1 y2 : Int) (h : rectQ t l b r n0 n1 n2 n3 = ((x1, x2, y1, y2), true)) : partT t b n0 n2 = (x1, y1, true) ∧ partT l r n1 n3 = (x2, y2, true) := by
  unfold rectQ at h
  split at h
  · rename_i hh
    injection h with h _
    injection h with h1 h
    injection h with h2 h
    injection h with h3 h4
    refine ⟨?_, ?_⟩
    · rw [← h1, ← h3, ← hh.1]
    · rw [← h2, ← h4, ← hh.2]
  · injection h with _ h; cases h
theorem rectQ_no (t l b r n0 n1 n2 n3 : Int) (h : (rectQ t l b r n0 n1 n2 n3).2 = false) : rectQ t l b r n0 n1 n2 n3 = ((0, 0, 0, 0), false) := by
  unfold rectQ at h ⊢
  split
  · rename_i hh; rw [if_pos hh] at h; cases h
  · rfl
theorem rectT_in (t l b r : Int) (ns : List Int) (i x1 x2 y1 y2 : Int) (h : rectT t l b r ns i = ((x1, x2, y1, y2), true)) : (t ≤ x1 ∧ x1 < y1 ∧ y1 ≤ b) ∧ (l ≤ x2 ∧ x2 < y2 ∧ y2 ≤ r) := by
  obtain ⟨h1, h2⟩ := rectQ_ok _ _ _ _ _ _ _ _ _ _ _ _ h
  have g1 := partT_in t b _ _ (by rw [h1])
  have g2 := partT_in l r _ _ (by rw [h2])
  rw [h1] at g1
  rw [h2] at g2
  exact ⟨g1, g2⟩
theorem rectT_again (t l b r : Int) (ns : List Int) (i x1 x2 y1 y2 : Int) (h : rectT t l b r ns i = ((x1, x2, y1, y2), true)) : rectT t l b r [x1 - t + 1, x2 - l + 1, y1 - t, y2 - l] 0 = ((x1, x2, y1, y2), true) := by
  obtain ⟨h1, h2⟩ := rectQ_ok _ _ _ _ _ _ _ _ _ _ _ _ h
  have g1 := partT_again _ _ _ _ _ _ h1
  have g2 := partT_again _ _ _ _ _ _ h2
  show rectQ t l b r (x1 - t + 1) (x2 - l + 1) (y1 - t) (y2 - l) = _
  unfold rectQ
  rw [g1, g2, if_pos ⟨rfl, rfl⟩]
theorem placeT_again (t l b r p q : Int) (h : inB t l b r p q = true) : placeT t l b r [p - t + 1, q - l + 1] 0 = (p, q) := by
  rw [inB_iff] at h
  have he : bEm t l b r = false := by unfold bEm emB; simp; omega
  show placeQ t l b r (p - t + 1) (q - l + 1) = _
  unfold placeQ clipP
  rw [he]
  simp only [Bool.false_eq_true, if_false, Prod.mk.injEq]
  omega
theorem meetT_sub (t l b r x1 x2 y1 y2 : Int) (h1 : t ≤ x1 ∧ x1 < y1 ∧ y1 ≤ b) (h2 : l ≤ x2 ∧ x2 < y2 ∧ y2 ≤ r) : meetT x1 x2 y1 y2 t l b r = (x1, x2, y1, y2) := by
  unfold meetT
  rw [show max x1 t = x1 from by omega, show max x2 l = x2 from by omega, show min y1 b = y1 from by omega, show min y2 r = y2 from by omega, if_neg]
  unfold bEm emB
  simp
  omega
theorem clampT_same (t l b r p q : Int) (h : inB t l b r p q = true) : clampT t l b r p q = (p, q) := by
  rw [inB_iff] at h
  have he : bEm t l b r = false := by unfold bEm emB; simp; omega
  unfold clampT clipP
  rw [he]
  simp only [Bool.false_eq_true, if_false, Prod.mk.injEq]
  omega
theorem rectT_none (ns : List Int) (i : Int) : rectT 0 0 0 0 ns i = ((0, 0, 0, 0), false) := by
  refine rectQ_no _ _ _ _ _ _ _ _ ?_
  cases h : (rectQ 0 0 0 0 (atP (dropP ns i) 0) (atP (dropP ns i) 1) (atP (dropP ns i) 2) (atP (dropP ns i) 3)).2
  · rfl
  · exfalso
    obtain ⟨p, hp⟩ : ∃ p, p = rectQ 0 0 0 0 (atP (dropP ns i) 0) (atP (dropP ns i) 1) (atP (dropP ns i) 2) (atP (dropP ns i) 3) := ⟨_, rfl⟩
    obtain ⟨⟨x1, x2, y1, y2⟩, ok⟩ := p
    rw [← hp] at h
    have h' : ok = true := h
    subst h'
    obtain ⟨h1, _⟩ := rectQ_ok _ _ _ _ _ _ _ _ _ _ _ _ hp.symm
    have g1 := partT_in 0 0 _ _ (by rw [h1])
    rw [h1] at g1
    simp only at g1
    omega
/-- Between two others, as the document has it. -/
def c3 (n a b : Int) : Int := if n < a then a else if b < n then b else n
theorem c3_in (n a b : Int) (h : a ≤ b) : a ≤ c3 n a b ∧ c3 n a b ≤ b := by unfold c3; split <;> (try split) <;> omega
theorem clamp3_any (n a b : Int) (w : World) :
    Calls Try.prog 29 #[.int .i64 n, .int .i64 a, .int .i64 b] w fun e w' => e = .returned (.int .i64 (c3 n a b)) ∧ w = w' := by
  have hcs : (n < a ∧ c3 n a b = a) ∨ (¬ n < a ∧ b < n ∧ c3 n a b = b) ∨ (¬ n < a ∧ ¬ b < n ∧ c3 n a b = n) := by
    unfold c3
    by_cases g : n < a
    · exact .inl ⟨g, if_pos g⟩
    · by_cases g2 : b < n
      · exact .inr (.inl ⟨g, g2, by rw [if_neg g, if_pos g2]⟩)
      · exact .inr (.inr ⟨g, g2, by rw [if_neg g, if_neg g2]⟩)
  rcases hcs with ⟨g, e⟩ | ⟨g, g2, e⟩ | ⟨g, g2, e⟩
  all_goals
    rw [e]
    clear e
    go_enter Try.func29, Try.ntmps29
    go_wp2_with fail
    go_ret
    exact ⟨rfl, rfl⟩
end Go.Proofs.Ytdddpdfljjfaoaa

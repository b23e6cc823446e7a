/-
  What is made of a row place by place; spans that are moved, laid and cut.
-/
import Derived.Test.YtbndnaohjloanaaDoorLineO
namespace Go.Proofs.YtbndnaohjloanaaDoor

open Go.RowKit

/-- Every place by itself: the first k places are done. -/
def updP (φ : Nat → Cl → Cl) (l : List Cl) (k : Nat) : List Cl := l.mapIdx fun j x => if j < k then φ j x else x
section

variable (φ : Nat → Cl → Cl) (l : List Cl) (k : Nat)

theorem updP_len : (updP φ l k).length = l.length := by simp [updP]
theorem updP_zero : updP φ l 0 = l := List.ext_getElem (by simp [updP]) (by simp [updP])
theorem updP_get (j : Nat) (h : j < (updP φ l k).length) : (updP φ l k)[j] = if j < k then φ j (l[j]'(by rw [updP_len] at h; exact h)) else l[j]'(by rw [updP_len] at h; exact h) := by simp [updP]
theorem updP_at (h : k < (updP φ l k).length) : (updP φ l k)[k] = l[k]'(by rw [updP_len] at h; exact h) := by simp [updP]
theorem updP_set (h : k < l.length) (x : Cl) (hx : φ k l[k] = x) : (updP φ l k).set k x = updP φ l (k + 1) := by
  apply List.ext_getElem (by simp [updP])
  intro j h1 h2
  rw [updP_get, List.getElem_set]
  by_cases e : k = j
  · subst e; rw [if_pos rfl, if_pos (by omega), hx]
  · rw [if_neg e, updP_get]
    by_cases hj : j < k
    · rw [if_pos hj, if_pos (by omega)]
    · rw [if_neg hj, if_neg (by omega)]
theorem updP_skip (h : k < l.length) (hx : φ k l[k] = l[k]) : updP φ l (k + 1) = updP φ l k := by
  apply List.ext_getElem (by simp [updP])
  intro j h1 h2
  rw [updP_get, updP_get]
  by_cases e : k = j
  · subst e; rw [if_pos (by omega), if_neg (by omega), hx]
  · by_cases hj : j < k
    · rw [if_pos hj, if_pos (by omega)]
    · rw [if_neg hj, if_neg (by omega)]
end

theorem updP_eq {φ : Nat → Cl → Cl} {l L : List Cl} (hl : L.length = l.length) (h : ∀ j (h1 : j < l.length), L[j]? = some (φ j l[j])) : updP φ l l.length = L := by
  apply List.ext_getElem (by rw [updP_len, hl])
  intro j h1 h2
  have h1' : j < l.length := by rw [updP_len] at h1; exact h1
  rw [updP_get, if_pos h1']
  have := h j h1'
  rw [List.getElem?_eq_getElem h2] at this
  exact (Option.some.inj this).symm
theorem get_self {l : List Cl} {i j : Nat} (e : i = j) (hj : j < l.length) : l[i]? = some l[j] := by subst e; exact List.getElem?_eq_getElem hj
theorem get_dflt {l : List Cl} {i j : Nat} (e : i = j) (hj : j < l.length) : l[i]? = some (l.getD j blankC) := by
  subst e; rw [List.getD_eq_getElem?_getD, List.getElem?_eq_getElem hj]; rfl
theorem get_rep {n i : Nat} (h : i < n) : (List.replicate n blankC)[i]? = some blankC := by rw [List.getElem?_eq_getElem (by simpa using h)]; simp
theorem take_get {l : List Cl} {i n : Nat} (h : i < n) : (l.take n)[i]? = l[i]? := List.getElem?_take_of_lt h

/-- The cell of a place, when a span's cells go on by n. -/
def movC (l : List Cl) (F T : Nat) (n : Int) (j : Nat) (x : Cl) : Cl :=
  if F ≤ j ∧ j < T then (if (F : Int) ≤ j - n ∧ j - n < T then l.getD (j - n).toNat blankC else blankC) else x
theorem mov_ins (l : List Cl) (F T K : Nat) (hT : T ≤ l.length) (hK : K ≤ T - F) : updP (movC l F T K) l l.length = insP l F (T - F) K := by
  by_cases hFT : F ≤ T
  · refine updP_eq (insP_len l F _ K (by omega) hK) fun j h1 => ?_
    have e1 : (l.take F).length = F := by rw [List.length_take]; omega
    have e2 : (l.take F ++ List.replicate K blankC).length = F + K := by rw [List.length_append, e1, List.length_replicate]
    have e3 : (l.take F ++ List.replicate K blankC ++ (l.drop F).take (T - F - K)).length = T := by
      rw [List.length_append, e2, List.length_take, List.length_drop]; omega
    unfold insP movC
    by_cases c1 : j < F
    · rw [if_neg (by omega), List.getElem?_append_left (by omega), List.getElem?_append_left (by omega), List.getElem?_append_left (by omega), take_get c1]; exact get_self rfl h1
    · by_cases c2 : j < F + K
      · rw [if_pos (by omega), if_neg (by omega), List.getElem?_append_left (by omega), List.getElem?_append_left (by omega), List.getElem?_append_right (by omega)]; exact get_rep (by omega)
      · by_cases c3 : j < T
        · rw [if_pos (by omega), if_pos (by omega), List.getElem?_append_left (by omega), List.getElem?_append_right (by omega), take_get (by omega), List.getElem?_drop]; exact get_dflt (by omega) (by omega)
        · rw [if_neg (by omega), List.getElem?_append_right (by omega), List.getElem?_drop]; exact get_self (by omega) h1
  · obtain rfl : K = 0 := by omega
    rw [show T - F = 0 from by omega, insP_none]
    exact updP_eq rfl fun j h1 => by unfold movC; rw [if_neg (by omega)]; exact get_self rfl h1
theorem mov_del (l : List Cl) (F T K : Nat) (hT : T ≤ l.length) (hK : K ≤ T - F) : updP (movC l F T (-(K : Int))) l l.length = delP l F (T - F) K := by
  by_cases hFT : F ≤ T
  · refine updP_eq (delP_len l F _ K (by omega) hK) fun j h1 => ?_
    have e1 : (l.take F).length = F := by rw [List.length_take]; omega
    have e2 : (l.take F ++ (l.drop (F + K)).take (T - F - K)).length = T - K := by
      rw [List.length_append, e1, List.length_take, List.length_drop]; omega
    have e3 : (l.take F ++ (l.drop (F + K)).take (T - F - K) ++ List.replicate K blankC).length = T := by
      rw [List.length_append, e2, List.length_replicate]; omega
    unfold delP movC
    by_cases c1 : j < F
    · rw [if_neg (by omega), List.getElem?_append_left (by omega), List.getElem?_append_left (by omega), List.getElem?_append_left (by omega), take_get c1]; exact get_self rfl h1
    · by_cases c2 : j < T - K
      · rw [if_pos (by omega), if_pos (by omega), List.getElem?_append_left (by omega), List.getElem?_append_left (by omega), List.getElem?_append_right (by omega), take_get (by omega), List.getElem?_drop]; exact get_dflt (by omega) (by omega)
      · by_cases c3 : j < T
        · rw [if_pos (by omega), if_neg (by omega), List.getElem?_append_left (by omega), List.getElem?_append_right (by omega)]; exact get_rep (by omega)
        · rw [if_neg (by omega), List.getElem?_append_right (by omega), List.getElem?_drop]; exact get_self (by omega) h1
  · obtain rfl : K = 0 := by omega
    rw [show T - F = 0 from by omega, delP_none]
    exact updP_eq rfl fun j h1 => by unfold movC; rw [if_neg (by omega)]; exact get_self rfl h1

/-- The cells of a row, laid on those from F on that lie ahead of T. -/
def layP (l : List Cl) (F T : Nat) (row : List Cl) : List Cl := l.take F ++ row.take (T - F) ++ l.drop (F + min (T - F) row.length)
def layC (row : List Cl) (F T j : Nat) (x : Cl) : Cl := if F ≤ j ∧ j < T ∧ j - F < row.length then row.getD (j - F) blankC else x
theorem layP_len (l : List Cl) (F T : Nat) (row : List Cl) (hT : T ≤ l.length) (hF : F ≤ T) : (layP l F T row).length = l.length := by unfold layP; simp; omega
theorem layP_none (l : List Cl) (F T : Nat) (row : List Cl) (hT : T ≤ F) : layP l F T row = l := by
  unfold layP; rw [show T - F = 0 from by omega]; simp
theorem lay_upd (l : List Cl) (F T : Nat) (row : List Cl) (hT : T ≤ l.length) : updP (layC row F T) l l.length = layP l F T row := by
  by_cases hFT : F ≤ T
  · refine updP_eq (layP_len l F T row hT hFT) fun j h1 => ?_
    have e1 : (l.take F).length = F := by rw [List.length_take]; omega
    have e2 : (l.take F ++ row.take (T - F)).length = F + min (T - F) row.length := by rw [List.length_append, e1, List.length_take]
    unfold layP layC
    by_cases c1 : j < F
    · rw [if_neg (by omega), List.getElem?_append_left (by omega), List.getElem?_append_left (by omega), take_get c1]; exact get_self rfl h1
    · by_cases c2 : j < F + min (T - F) row.length
      · rw [if_pos (by omega), List.getElem?_append_left (by omega), List.getElem?_append_right (by omega), take_get (by omega)]; exact get_dflt (by omega) (by omega)
      · rw [if_neg (by omega), List.getElem?_append_right (by omega), List.getElem?_drop]; exact get_self (by omega) h1
  · rw [layP_none l F T row (by omega)]
    exact updP_eq rfl fun j h1 => by unfold layC; rw [if_neg (by omega)]; exact get_self rfl h1
/-- The cells of a span. -/
def cutP (l : List Cl) (F T : Nat) : List Cl := (l.drop F).take (T - F)
theorem cutP_len (l : List Cl) (F T : Nat) (hT : T ≤ l.length) : (cutP l F T).length = T - F := by unfold cutP; rw [List.length_take, List.length_drop]; omega
theorem cutP_step (l : List Cl) (F k : Nat) (h : k < l.length) (hF : F ≤ k) : cutP l F (k + 1) = cutP l F k ++ [l[k]] := by
  unfold cutP
  rw [show k + 1 - F = (k - F) + 1 from by omega, take_snoc (l.drop F) (k - F) (by rw [List.length_drop]; omega)]
  simp only [List.getElem_drop]
  congr 3
  omega
theorem cutP_out (l : List Cl) (F k : Nat) (h : k ≤ F) : cutP l F k = [] := by unfold cutP; rw [show k - F = 0 from by omega]; rfl
theorem lay_back (l row : List Cl) (F T : Nat) (hT : T ≤ l.length) : layP (layP l F T row) F T (cutP l F T) = l := by
  by_cases hFT : F ≤ T
  · have e1 : (l.take F).length = F := by rw [List.length_take]; omega
    have e4 := cutP_len l F T hT
    unfold layP
    rw [e4, Nat.min_self, List.take_of_length_le (l := cutP l F T) (by omega)]
    have e2 : (l.take F ++ row.take (T - F)).length = F + min (T - F) row.length := by rw [List.length_append, e1, List.length_take]
    have h1 : (l.take F ++ row.take (T - F) ++ l.drop (F + min (T - F) row.length)).take F = l.take F := by
      rw [List.append_assoc, List.take_append_of_le_length (by omega), List.take_of_length_le (by omega)]
    have h2 : (l.take F ++ row.take (T - F) ++ l.drop (F + min (T - F) row.length)).drop (F + (T - F)) = l.drop T := by
      rw [List.drop_append, List.drop_eq_nil_of_le (by omega), List.nil_append, e2, List.drop_drop]
      congr 1
      omega
    rw [h1, h2]
    unfold cutP
    rw [List.append_assoc, show l.drop T = (l.drop F).drop (T - F) from by rw [List.drop_drop]; congr 1; omega, List.take_append_drop, List.take_append_drop]
  · rw [layP_none _ F T _ (by omega), layP_none _ F T _ (by omega)]

/-- What was inserted and deleted again. -/
theorem ins_del (l : List Cl) (F M K : Nat) (hM : F + M ≤ l.length) (hK : K ≤ M) : delP (insP l F M K) F M K = l.take (F + (M - K)) ++ List.replicate K blankC ++ l.drop (F + M) := by
  have e1 : (l.take F).length = F := by rw [List.length_take]; omega
  have e2 : (l.take F ++ List.replicate K blankC).length = F + K := by rw [List.length_append, e1, List.length_replicate]
  have e3 : ((l.drop F).take (M - K)).length = M - K := by rw [List.length_take, List.length_drop]; omega
  have e5 : (l.take F ++ List.replicate K blankC ++ (l.drop F).take (M - K)).length = F + M := by rw [List.length_append, e2, e3]; omega
  unfold delP
  have h1 : (insP l F M K).take F = l.take F := by
    unfold insP
    rw [List.append_assoc, List.append_assoc, List.take_append_of_le_length (by omega), List.take_of_length_le (by omega)]
  have h2 : (insP l F M K).drop (F + K) = (l.drop F).take (M - K) ++ l.drop (F + M) := by
    unfold insP
    rw [List.append_assoc (_ ++ _), List.drop_append, List.drop_eq_nil_of_le (by omega), e2, Nat.sub_self, List.nil_append]
    rfl
  have h3 : (insP l F M K).drop (F + M) = l.drop (F + M) := by
    unfold insP
    rw [List.drop_append, List.drop_eq_nil_of_le (by omega), e5, Nat.sub_self, List.nil_append]
    rfl
  have h4 : ((l.drop F).take (M - K) ++ l.drop (F + M)).take (M - K) = (l.drop F).take (M - K) := by
    rw [List.take_append_of_le_length (by omega), List.take_of_length_le (by omega)]
  have h5 : l.take F ++ (l.drop F).take (M - K) = l.take (F + (M - K)) := (List.take_add).symm
  rw [h1, h2, h3, h4, h5]
/-- The same, place by place. -/
theorem back_upd (l : List Cl) (F M K : Nat) (hM : F + M ≤ l.length) (hK : K ≤ M) : updP (fun j x => if F + (M - K) ≤ j ∧ j < F + M then blankC else x) l l.length = delP (insP l F M K) F M K := by
  have e0 : (l.take (F + (M - K))).length = F + (M - K) := by rw [List.length_take]; omega
  have e1 : (l.take (F + (M - K)) ++ List.replicate K blankC).length = F + M := by rw [List.length_append, e0, List.length_replicate]; omega
  rw [ins_del l F M K hM hK]
  refine updP_eq (by rw [List.length_append, e1, List.length_drop]; omega) fun j h1 => ?_
  by_cases c1 : j < F + (M - K)
  · rw [if_neg (by omega), List.getElem?_append_left (by omega), List.getElem?_append_left (by omega), take_get c1]; exact get_self rfl h1
  · by_cases c2 : j < F + M
    · rw [if_pos (by omega), List.getElem?_append_left (by omega), List.getElem?_append_right (by omega)]; exact get_rep (by omega)
    · rw [if_neg (by omega), List.getElem?_append_right (by omega), List.getElem?_drop]; exact get_self (by omega) h1
end Go.Proofs.YtbndnaohjloanaaDoor

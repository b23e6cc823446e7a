/-
  What stands on both sides of a semicolon is read by itself: plain.
-/
import Derived.Test.YtigifjbgjcnlaaaDoorParV
namespace Go.Proofs.YtigifjbgjcnlaaaDoor
open Go.RowKit

theorem fieldsP_ne (p : List UInt8) : fieldsP p ≠ [] := by
  unfold fieldsP
  split
  · simp
  · rename_i h; exact fieldsOf_ne h
theorem stepF_behind (G fs : List Int) (hf : fs ≠ []) (c : UInt8) : stepF (G ++ fs) c = G ++ stepF fs c := by
  obtain ⟨gs, x, rfl⟩ : ∃ gs x, fs = gs ++ [x] := ⟨fs.dropLast, fs.getLast hf, (List.dropLast_concat_getLast hf).symm⟩
  by_cases h59 : c = 59
  · subst h59
    rw [stepF_semi (by simp), stepF_semi (by simp), List.append_assoc]
  · rw [← List.append_assoc, stepF_digit _ _ h59, stepF_digit _ _ h59, List.append_assoc]
theorem fields_cat (a : List UInt8) (b : List UInt8) : fieldsOf (a ++ [59] ++ b) = fieldsP a ++ fieldsP b := by
  suffices H : ∀ n (b : List UInt8), b.length = n → fieldsOf (a ++ [59] ++ b) = fieldsP a ++ fieldsP b from H b.length b rfl
  intro n
  induction n with
  | zero =>
    intro b hb
    obtain rfl := List.eq_nil_of_length_eq_zero hb
    rw [List.append_nil, fieldsOf_semi]
    rfl
  | succ n ih =>
    intro b hb
    have hbn : b ≠ [] := by rintro rfl; simp at hb
    obtain ⟨b', c, rfl⟩ : ∃ b' c, b = b' ++ [c] := ⟨b.dropLast, b.getLast hbn, (List.dropLast_concat_getLast hbn).symm⟩
    have h1 := ih b' (by simpa using hb)
    rw [← List.append_assoc, fieldsOf_snoc, h1, stepF_behind _ _ (fieldsP_ne b'), fieldsP_snoc]
    congr 1
    by_cases hb' : b' = []
    · subst hb'
      by_cases h59 : c = 59
      · subst h59; rfl
      · show stepF ([] ++ [0]) c = stepF [] c
        rw [stepF_digit [] 0 h59, stepF_digit_nil h59]; rfl
    · unfold fieldsP; rw [if_neg hb']
/-- What a side gives, at least one number. -/
def sideOf (p : List UInt8) : List Int := if numsOf p = [] then [0] else numsOf p
theorem sideOf_eq (p : List UInt8) : sideOf p = (fieldsP p).take 30 := by
  unfold sideOf fieldsP
  by_cases hp : p = []
  · subst hp; rfl
  · rw [if_neg hp]
    have h : numsOf p ≠ [] := by
      unfold numsOf
      have := fieldsOf_ne hp
      intro h
      have := List.length_pos_iff.2 this
      have h2 := congrArg List.length h
      rw [List.length_take, List.length_nil] at h2
      omega
    rw [if_neg h]; rfl
theorem side_len (p : List UInt8) : (sideOf p).length ≤ 30 := by rw [sideOf_eq, List.length_take]; omega
theorem cat_full (a b : List UInt8) (h : (sideOf a).length = 30) : numsOf (a ++ [59] ++ b) = sideOf a := by
  rw [sideOf_eq] at h ⊢
  unfold numsOf
  rw [fields_cat, List.take_append_of_le_length (by rw [List.length_take] at h; omega)]
theorem cat_more (a b : List UInt8) (h : (sideOf a).length ≠ 30) : numsOf (a ++ [59] ++ b) = (sideOf a ++ sideOf b).take 30 := by
  have hl : (fieldsP a).length < 30 := by rw [sideOf_eq, List.length_take] at h; omega
  rw [sideOf_eq, sideOf_eq]
  unfold numsOf
  rw [fields_cat, List.take_of_length_le (by omega : (fieldsP a).length ≤ 30), List.take_append, List.take_append, List.take_take]
  congr 2
  rw [Nat.min_eq_left (by omega)]
theorem okb_cat (a b : List UInt8) : OkB (a ++ [59] ++ b) ↔ OkB a ∧ OkB b := by
  unfold OkB
  constructor
  · intro h
    exact ⟨fun x hx => h x (by simp [hx]), fun x hx => h x (by simp [hx])⟩
  · rintro ⟨h1, h2⟩ x hx
    simp only [List.append_assoc, List.mem_append, List.mem_singleton] at hx
    rcases hx with hx | rfl | hx
    · exact h1 x hx
    · rfl
    · exact h2 x hx
end Go.Proofs.YtigifjbgjcnlaaaDoor

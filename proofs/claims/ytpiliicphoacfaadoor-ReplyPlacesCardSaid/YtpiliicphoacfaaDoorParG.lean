/-
  The plain mathematics of the reference's way: piece by piece.
-/
import Derived.Test.YtpiliicphoacfaaDoorParF
import Derived.Lib.Strings
namespace Go.Proofs.YtpiliicphoacfaaDoor

open Go.RowKit

/-- The fields, at least one. -/
def fieldsP (p : List UInt8) : List Int := if p = [] then [0] else fieldsOf p
/-- The piece from b on, ahead of k. -/
def seg (l : List UInt8) (b k : Nat) : List UInt8 := (l.drop b).take (k - b)
theorem seg_self (l : List UInt8) (b : Nat) : seg l b b = [] := by simp [seg]
theorem seg_snoc (l : List UInt8) (b k : Nat) (hb : b ≤ k) (hk : k < l.length) : seg l b (k + 1) = seg l b k ++ [l[k]] := by
  unfold seg
  rw [show k + 1 - b = (k - b) + 1 from by omega, take_snoc _ (k - b) (by simp; omega)]
  congr 2
  rw [List.getElem_drop]
  congr 1
  omega
/-- What holds of the pieces that are done, and of where the next begins. -/
def PieceAt (l : List UInt8) (k : Nat) (comp : List Int) (b : Nat) : Prop := b ≤ k ∧ (∀ c ∈ seg l b k, c ≠ 59) ∧ fieldsP (l.take k) = comp ++ [sat (seg l b k)]
theorem piece_start (l : List UInt8) : PieceAt l 0 [] 0 := ⟨Nat.le_refl _, by simp [seg], by simp [seg, fieldsP, sat]⟩
theorem fieldsP_snoc (p : List UInt8) (c : UInt8) : fieldsP (p ++ [c]) = stepF (fieldsOf p) c := by simp [fieldsP, fieldsOf_snoc]
theorem piece_digit (l : List UInt8) (k : Nat) (hk : k < l.length) (h59 : l[k] ≠ 59) (comp : List Int) (b : Nat) (h : PieceAt l k comp b) : PieceAt l (k + 1) comp b := by
  obtain ⟨h1, h2, h3⟩ := h
  refine ⟨by omega, fun c hc => ?_, ?_⟩
  · rw [seg_snoc l b k h1 hk] at hc
    rcases List.mem_append.1 hc with hc | hc
    · exact h2 c hc
    · simp at hc; rw [hc]; exact h59
  · rw [take_snoc l k hk, fieldsP_snoc, seg_snoc l b k h1 hk]
    have hs : sat (seg l b k ++ [l[k]]) = sat1 (sat (seg l b k)) (dgt l[k]) := by unfold sat; rw [List.foldl_append]; rfl
    rw [hs]
    unfold fieldsP at h3
    split at h3
    · rename_i hp
      rw [hp]
      have hc : comp = [] := by
        cases comp with
        | nil => rfl
        | cons x xs => simp at h3
      subst hc
      have h0 : sat (seg l b k) = 0 := by simpa using h3.symm
      rw [h0]
      exact stepF_digit_nil h59
    · rw [h3, stepF_digit _ _ h59]
theorem piece_semi (l : List UInt8) (k : Nat) (hk : k < l.length) (h59 : l[k] = 59) (comp : List Int) (b : Nat) (h : PieceAt l k comp b) : PieceAt l (k + 1) (comp ++ [sat (seg l b k)]) (k + 1) := by
  obtain ⟨h1, h2, h3⟩ := h
  refine ⟨Nat.le_refl _, by simp [seg], ?_⟩
  rw [take_snoc l k hk, fieldsP_snoc, h59, seg_self, ← h3]
  unfold fieldsP
  split
  · rename_i hp; rw [hp]; rfl
  · rename_i hp; rw [stepF_semi (fieldsOf_ne hp)]; rfl
theorem piece_end (l : List UInt8) (comp : List Int) (b : Nat) (h : PieceAt l l.length comp b) : comp ++ [sat (seg l b l.length)] = fieldsP l := by
  have := h.2.2
  rw [List.take_length] at this
  exact this.symm
/-- The pieces that are kept. -/
theorem keep_more (comp : List Int) (x : Int) (h : (comp.take 30).length < 30) : comp.take 30 ++ [x] = (comp ++ [x]).take 30 := by
  have : comp.length < 30 := by simp at h; omega
  rw [List.take_of_length_le (by omega), List.take_of_length_le (by simp; omega)]
theorem keep_full (comp : List Int) (x : Int) (h : ¬ (comp.take 30).length < 30) : comp.take 30 = (comp ++ [x]).take 30 := by
  have : 30 ≤ comp.length := by simp at h; omega
  rw [List.take_append_of_le_length (by omega)]
end Go.Proofs.YtpiliicphoacfaaDoor

/-
  The reference's list of texts and the program's fifteen places; the reference's Define.
-/
import Derived.Test.YtlhabooeeohniaaDoorUdkL
namespace Go.Proofs.YtlhabooeeohniaaDoor
open Go Go.RowKit

/-- The texts that there are, from the place j on. -/
def listF (j : Nat) : List ByteArray → List Tx
  | [] => []
  | t :: T => (if t = ⟨#[]⟩ then [] else [⟨nthU j, t⟩]) ++ listF (j + 1) T
def listU (T : List ByteArray) : List Tx := listF 0 T
theorem nthU_lt : ∀ i j : Nat, i < j → j < 15 → nthU i < nthU j := by
  have h : ∀ j, j < 15 → ∀ i, i < j → nthU i < nthU j := by decide
  exact fun i j hi hj => h j hj i hi
theorem putG_true (s : ByteArray) (k : Nat) : ∀ (T : List ByteArray) (j : Nat), k < j → j + T.length ≤ 15 → putG (nthU k) s true (listF j T) = listF j T
  | [], j, _, _ => rfl
  | t :: T, j, hj, hl => by
    have ih := putG_true s k T (j + 1) (by omega) (by simp at hl ⊢; omega)
    unfold listF
    by_cases ht : t = ⟨#[]⟩
    · rw [if_pos ht, List.nil_append, ih]
    · rw [if_neg ht]
      have hlt := nthU_lt k j hj (by simp at hl; omega)
      show (if (decide (nthU k ≤ nthU j) && !true) = true then _ else _) ++ ((if nthU j = nthU k then _ else _) ++ putG (nthU k) s (true || _) (listF (j + 1) T)) = _
      rw [Bool.not_true, Bool.and_false, if_neg (by simp), if_neg (by omega), Bool.true_or, ih]
      rfl
theorem putG_false (s : ByteArray) (k : Nat) : ∀ (T : List ByteArray) (j : Nat), k < j → j + T.length ≤ 15 → putG (nthU k) s false (listF j T) = ⟨nthU k, s⟩ :: listF j T
  | [], j, _, _ => rfl
  | t :: T, j, hj, hl => by
    unfold listF
    by_cases ht : t = ⟨#[]⟩
    · rw [if_pos ht, List.nil_append, putG_false s k T (j + 1) (by omega) (by simp at hl ⊢; omega)]
    · rw [if_neg ht]
      have hlt := nthU_lt k j hj (by simp at hl; omega)
      show (if (decide (nthU k ≤ nthU j) && !false) = true then _ else _) ++ ((if nthU j = nthU k then _ else _) ++ putG (nthU k) s (false || decide (nthU k ≤ nthU j)) (listF (j + 1) T)) = _
      rw [decide_eq_true (by omega), Bool.not_false, Bool.and_true, if_pos rfl, if_neg (by omega), Bool.or_true, putG_true s k T (j + 1) (by omega) (by simp at hl ⊢; omega)]
      rfl
theorem putG_at (s : ByteArray) (k : Nat) (done : Bool) (hd : done = decide (s = ⟨#[]⟩)) : ∀ (T : List ByteArray) (j : Nat), j ≤ k → k < j + T.length → j + T.length ≤ 15 → putG (nthU k) s done (listF j T) = listF j (T.set (k - j) s)
  | [], j, h1, h2, _ => by simp at h2; omega
  | t :: T, j, h1, h2, hl => by
    have hl' : j + 1 + T.length ≤ 15 := by simp at hl; omega
    by_cases hk : j = k
    · subst hk
      rw [Nat.sub_self, List.set_cons_zero]
      have e : putG (nthU j) s done (listF j (t :: T)) = (if s = ⟨#[]⟩ then [] else [⟨nthU j, s⟩]) ++ listF (j + 1) T := by
        by_cases ht : t = ⟨#[]⟩
        · show putG (nthU j) s done ((if t = ⟨#[]⟩ then [] else [⟨nthU j, t⟩]) ++ listF (j + 1) T) = _
          rw [if_pos ht, List.nil_append]
          by_cases hs : s = ⟨#[]⟩
          · rw [hd, decide_eq_true hs, if_pos hs, putG_true s j T (j + 1) (by omega) hl']; rfl
          · rw [hd, decide_eq_false hs, if_neg hs, putG_false s j T (j + 1) (by omega) hl']; rfl
        · show putG (nthU j) s done ((if t = ⟨#[]⟩ then [] else [⟨nthU j, t⟩]) ++ listF (j + 1) T) = _
          rw [if_neg ht]
          show (if (decide (nthU j ≤ nthU j) && !done) = true then _ else _) ++ ((if nthU j = nthU j then _ else _) ++ putG (nthU j) s (done || decide (nthU j ≤ nthU j)) (listF (j + 1) T)) = _
          rw [decide_eq_true (Int.le_refl _), Bool.true_and, if_pos rfl, Bool.or_true, List.nil_append, putG_true s j T (j + 1) (by omega) hl']
          by_cases hs : s = ⟨#[]⟩
          · rw [hd, decide_eq_true hs, if_pos hs, if_neg (by simp)]
          · rw [hd, decide_eq_false hs, if_neg hs, if_pos (by simp)]
      exact e
    · have hlt := nthU_lt j k (by omega) (by simp at h2 hl; omega)
      have ih := putG_at s k done hd T (j + 1) (by omega) (by simp at h2; omega) hl'
      rw [show k - j = (k - (j + 1)) + 1 from by omega, List.set_cons_succ]
      by_cases ht : t = ⟨#[]⟩
      · show putG (nthU k) s done ((if t = ⟨#[]⟩ then [] else [⟨nthU j, t⟩]) ++ listF (j + 1) T) = (if t = ⟨#[]⟩ then [] else [⟨nthU j, t⟩]) ++ listF (j + 1) (T.set (k - (j + 1)) s)
        rw [if_pos ht, List.nil_append, ih]; rfl
      · show putG (nthU k) s done ((if t = ⟨#[]⟩ then [] else [⟨nthU j, t⟩]) ++ listF (j + 1) T) = (if t = ⟨#[]⟩ then [] else [⟨nthU j, t⟩]) ++ listF (j + 1) (T.set (k - (j + 1)) s)
        rw [if_neg ht]
        show (if (decide (nthU k ≤ nthU j) && !done) = true then _ else _) ++ ((if nthU j = nthU k then _ else _) ++ putG (nthU k) s (done || decide (nthU k ≤ nthU j)) (listF (j + 1) T)) = _
        rw [decide_eq_false (by omega), Bool.false_and, if_neg (by simp), if_neg (by omega), Bool.or_false, ih]
        rfl
theorem putU_set (T : List ByteArray) (hT : T.length = 15) (k : Nat) (hk : k < 15) (s : ByteArray) : putU (listU T) (nthU k) s = listU (T.set k s) := by
  have h := putG_at s k _ rfl T 0 (by omega) (by omega) (by omega)
  exact h
theorem usedF_eq : ∀ (T : List ByteArray) (j : Nat), usedL (listF j T) = usedT T
  | [], _ => rfl
  | t :: T, j => by
    have ih := usedF_eq T (j + 1)
    have h3 : usedT (t :: T) = t.size + usedT T := rfl
    rw [h3, ← ih]
    show usedL ((if t = ⟨#[]⟩ then [] else [⟨nthU j, t⟩]) ++ listF (j + 1) T) = t.size + usedL (listF (j + 1) T)
    by_cases ht : t = ⟨#[]⟩
    · rw [if_pos ht, ht, List.nil_append, show (⟨#[]⟩ : ByteArray).size = 0 from rfl, Nat.zero_add]
    · rw [if_neg ht]; rfl
theorem listF_len : ∀ (T : List ByteArray) (j : Nat), (listF j T).length ≤ T.length
  | [], _ => Nat.le_refl _
  | t :: T, j => by
    have ih := listF_len T (j + 1)
    unfold listF
    rw [List.length_append, List.length_cons]
    split <;> simp <;> omega
theorem oneL_step (T : List ByteArray) (hT : T.length = 15) (x : List Nat) (h8 : ∀ c ∈ x, c < 256) : oneL (listU T) x = (stepU T x).map listU := by
  unfold oneL stepU
  by_cases hx : x = []
  · rw [if_pos hx, if_pos hx]; rfl
  · rw [if_neg hx, if_neg hx, refS_eq x h8]
    cases hd : defS x with
    | none => rfl
    | some p =>
      show some (putU (listU T) (nthU p.1) (bstr p.2)) = some (listU (T.set p.1 (bstr p.2)))
      rw [putU_set T hT p.1 (defS_lt x p.1 p.2 hd)]
theorem nb_lt (s : ByteArray) : ∀ c ∈ nb s, c < 256 := fun c hc => by
  unfold nb natL at hc
  obtain ⟨u, _, rfl⟩ := List.mem_map.1 hc
  exact u.toNat_lt
theorem nb_ext (s : ByteArray) (a b : Nat) : nb (s.extract a b) = ((nb s).take b).drop a := natQ_ext s a b
theorem stepU_len (T : List ByteArray) (x : List Nat) (T' : List ByteArray) (hT : T.length = 15) (h : stepU T x = some T') : T'.length = 15 := by
  unfold stepU at h
  split at h
  · injection h with h; rw [← h]; exact hT
  · cases hd : defS x with
    | none => rw [hd] at h; cases h
    | some p => rw [hd] at h; injection h with h; rw [← h, List.length_set]; exact hT
/-- What is left of a text from its place b on, if no semicolon stands from there up to k. -/
theorem pcs_semi_at (l : List Nat) (b k : Nat) (hb : b ≤ k) (hno : ∀ c ∈ (l.take k).drop b, c ≠ 59) (hk : l[k]? = some 59) : pcs (l.drop b) = (l.take k).drop b :: pcs (l.drop (k + 1)) := by
  obtain ⟨hlt, he⟩ := List.getElem?_eq_some_iff.1 hk
  have e : l.drop b = (l.take k).drop b ++ 59 :: l.drop (k + 1) := by
    conv => lhs; rw [← List.take_append_drop k l]
    rw [List.drop_append_of_le_length (by simp; omega), List.drop_eq_getElem_cons hlt, he]
  rw [e]
  exact pcs_yes _ _ hno
theorem pcs_end_at (l : List Nat) (b : Nat) (hno : ∀ c ∈ (l.take l.length).drop b, c ≠ 59) : pcs (l.drop b) = [(l.take l.length).drop b] := by
  rw [List.take_length] at hno ⊢
  exact pcs_no _ hno
end Go.Proofs.YtlhabooeeohniaaDoor

/-
  A report of stops, restored: the stops that it was written of. Plain facts.
-/
import Derived.Test.YtnfdgioapbkonaaDoorTabQ
import Derived.Test.YtnfdgioapbkonaaDoorTabL
namespace Go.Proofs.YtnfdgioapbkonaaDoor
open Go Go.RowKit Go.Sort

theorem u8_dig (d : Nat) (h : d < 10) : (UInt8.ofNat (48 + d)).toNat = 48 + d := by
  rw [UInt8.toNat_ofNat']; omega
theorem dec_num (n : Nat) : n ≤ 500 → numF (Lib.decDigits n) = n := by
  induction n using Nat.strongRecOn with
  | _ n ih =>
    intro hn
    rw [Lib.decDigits]
    split
    · rename_i h
      show accN 0 _ = n
      unfold accN
      rw [u8_dig n h]
      omega
    · rename_i h
      have := ih (n / 10) (by omega) (by omega)
      unfold numF at this ⊢
      rw [List.foldl_append, this]
      show accN (n / 10) _ = n
      unfold accN
      rw [u8_dig _ (by omega)]
      omega
theorem dec_dgt (n : Nat) : ∀ b ∈ Lib.decDigits n, dgt b = true := by
  induction n using Nat.strongRecOn with
  | _ n ih =>
    rw [Lib.decDigits]
    split
    · rename_i h
      intro b hb
      rw [List.mem_singleton] at hb
      subst hb
      unfold dgt
      rw [u8_dig n h]
      simp
      omega
    · rename_i h
      intro b hb
      rcases List.mem_append.1 hb with hb | hb
      · exact ih (n / 10) (by omega) b hb
      · rw [List.mem_singleton] at hb
        subst hb
        unfold dgt
        rw [u8_dig _ (by omega)]
        simp
        omega
theorem dig_some (x : Int) : (false || !(dig x).isEmpty) = true := by
  have := dig_pos x
  cases h : dig x with
  | nil => rw [h] at this; simp at this
  | cons a b => rfl
theorem dig_num (x : Int) (h : x < 500) : (dig x).foldl accN 0 = (x + 1).toNat := dec_num _ (by omega)
def marks (L : List Int) (out : List Bool) : List Bool := L.foldl (fun o x => mark o (x + 1).toNat) out
theorem marks_len (L : List Int) : ∀ out, (marks L out).length = out.length := by
  induction L with
  | nil => intro out; rfl
  | cons x r ih => intro out; show (marks r (mark out _)).length = _; rw [ih, mark_len]
theorem rst_join : ∀ (L : List Int) (out : List Bool), L ≠ [] → (∀ x ∈ L, x < 500) → rstG (Lib.join (L.map dig) [47]) 0 false out = some (marks L out)
  | [], _, h, _ => absurd rfl h
  | [x], out, _, h => by
    have e := rstG_run (dig x) [] 0 false out (dec_dgt _)
    rw [List.append_nil, dig_some, dig_num x (h x (by simp))] at e
    rw [List.map_cons, List.map_nil, Lib.join_one, e]
    rfl
  | x :: y :: r, out, _, h => by
    have e := rstG_run (dig x) (47 :: Lib.join ((y :: r).map dig) [47]) 0 false out (dec_dgt _)
    rw [dig_some, dig_num x (h x (by simp))] at e
    have j : Lib.join ((x :: y :: r).map dig) [47] = dig x ++ (47 :: Lib.join ((y :: r).map dig) [47]) := by
      rw [List.map_cons, List.map_cons, Lib.join_cons, Lib.join_cons]
      simp [Lib.joinTail]
    rw [j, e]
    have ih := rst_join (y :: r) (mark out (x + 1).toNat) (by simp) (fun z hz => h z (by simp at hz ⊢; right; exact hz))
    rw [rstG, if_neg (by decide), if_pos (by decide), ih]
    rfl
theorem marks_hOf (l : List Bool) (n : Nat) : ∀ k, k ≤ n → ∀ d, hOf (marks (lstP (hOf l) k) (List.replicate n false)) d = (decide (d < k) && hOf l d) := by
  intro k
  induction k with
  | zero => intro _ d; rw [show lstP (hOf l) 0 = [] from rfl]; show hOf (List.replicate n false) d = _; rw [← hOf_none]; simp [noH]
  | succ k ih =>
    intro hk d
    have h1 := ih (by omega)
    rcases hh : hOf l k with _ | _
    · rw [lstP_no _ _ hh, h1]
      by_cases e : d = k
      · subst e; rw [hh]; simp
      · rw [show decide (d < k + 1) = decide (d < k) from by apply decide_eq_decide.2; omega]
    · rw [lstP_yes _ _ hh]
      unfold marks at h1 ⊢
      rw [List.foldl_append]
      show hOf (mark (marks (lstP (hOf l) k) (List.replicate n false)) ((k : Int) + 1).toNat) d = _
      rw [show ((k : Int) + 1).toNat = k + 1 from by omega, ← mark_yes _ k d (by rw [marks_len]; simp; omega)]
      have h2 := h1 d
      unfold marks
      rw [h2]
      by_cases e : k = d
      · subst e; rw [hh]; simp
      · rw [show decide (d < k + 1) = decide (d < k) from by apply decide_eq_decide.2; omega]; simp [e]
/-- What comes of a report. -/
theorem rst_all (l : List Bool) (hl : l.length ≤ 500) : ∃ out, rstP (repB (lstP (hOf l) l.length)).data.toList l.length = some out ∧ out.length = l.length ∧ ∀ d, hOf out d = hOf l d := by
  refine ⟨marks (lstP (hOf l) l.length) (List.replicate l.length false), ?_, by rw [marks_len]; simp, fun d => ?_⟩
  · unfold rstP
    show (if Lib.join ((lstP (hOf l) l.length).map dig) [47] = [] then _ else rstG (Lib.join ((lstP (hOf l) l.length).map dig) [47]) 0 false _) = _
    have hm := lstP_mem (hOf l) l.length
    generalize lstP (hOf l) l.length = L at *
    by_cases hL : L = []
    · subst hL
      rw [if_pos (by simp [Lib.join_nil])]
      rfl
    · have h1 := repB_ne L hL
      rw [ByteArray.toList_eq] at h1
      have h2 : (Lib.join (L.map dig) [47]).isEmpty = false := h1
      rw [if_neg (fun e => by rw [e] at h2; simp at h2), rst_join L _ hL (fun x hx => by have := hm x hx; omega)]
  · rw [marks_hOf l l.length l.length (Nat.le_refl _)]
    by_cases h : d < l.length
    · simp [h]
    · rw [hOf_out l d (by omega)]; simp
end Go.Proofs.YtnfdgioapbkonaaDoor

/-
  The walk that inserts cells.
  The walk that deletes cells.
  Cells that are inserted and deleted, place by place: some and some more are all of them.
  What is made of a row place by place; spans that are moved, laid and cut.
  The walks of the reference: is a column within a span; how many columns a span has.
  Lines as letters: what a call of line hands back, wherever it may lie.
  The walks of the reference's Move, Insert and Delete.
  The walks of the reference's One (filling) and Each.
-/
import Derived.Test.YtjljhnahofkmaaaDoorLineO
import Derived.Test.YtjljhnahofkmaaaDoorMixE
namespace Go.Proofs.YtjljhnahofkmaaaDoor

open Go.RowKit


end Go.Proofs.YtjljhnahofkmaaaDoor

namespace Go.Proofs.YtjljhnahofkmaaaDoor

open Go.RowKit


end Go.Proofs.YtjljhnahofkmaaaDoor

namespace Go.Proofs.YtjljhnahofkmaaaDoor

open Go.RowKit

theorem insP_at (l : List Cl) (F M K i : Nat) (hM : F + M ≤ l.length) (hK : K ≤ M) :
    (insP l F M K)[i]? = if i < F then l[i]? else if i < F + K then some blankC else if i < F + M then l[i - K]? else l[i]? := by
  unfold insP
  simp only [List.getElem?_append, List.length_append, List.length_take, List.length_replicate, List.length_drop, List.getElem?_take, List.getElem?_drop, List.getElem?_replicate]
  have e1 : min F l.length = F := by omega
  have e2 : min (M - K) (l.length - F) = M - K := by omega
  rw [e1, e2]
  by_cases h1 : i < F
  · rw [if_pos (by omega), if_pos (by omega), if_pos h1, if_pos h1, if_pos h1]
  · by_cases h2 : i < F + K
    · rw [if_pos (by omega), if_pos (by omega), if_neg h1, if_pos (by omega), if_neg h1, if_pos h2]
    · by_cases h3 : i < F + M
      · rw [if_pos (by omega), if_neg (by omega), if_pos (by omega), if_neg h1, if_neg h2, if_pos h3]
        congr 1; omega
      · rw [if_neg (by omega), if_neg h1, if_neg h2, if_neg h3]
        congr 1; omega
theorem delP_at (l : List Cl) (F M K i : Nat) (hM : F + M ≤ l.length) (hK : K ≤ M) :
    (delP l F M K)[i]? = if i < F then l[i]? else if i < F + (M - K) then l[i + K]? else if i < F + M then some blankC else l[i]? := by
  unfold delP
  simp only [List.getElem?_append, List.length_append, List.length_take, List.length_replicate, List.length_drop, List.getElem?_take, List.getElem?_drop, List.getElem?_replicate]
  have e1 : min F l.length = F := by omega
  have e2 : min (M - K) (l.length - (F + K)) = M - K := by omega
  rw [e1, e2]
  by_cases h1 : i < F
  · rw [if_pos (by omega), if_pos (by omega), if_pos h1, if_pos h1, if_pos h1]
  · by_cases h2 : i < F + (M - K)
    · rw [if_pos (by omega), if_pos (by omega), if_neg h1, if_pos (by omega), if_neg h1, if_pos h2]
      congr 1; omega
    · by_cases h3 : i < F + M
      · rw [if_pos (by omega), if_neg (by omega), if_pos (by omega), if_neg h1, if_neg h2, if_pos h3]
      · rw [if_neg (by omega), if_neg h1, if_neg h2, if_neg h3]
        congr 1; omega
theorem ins_ins (l : List Cl) (F M K J : Nat) (hM : F + M ≤ l.length) (hK : K ≤ M) (hJ : J ≤ M) : insP (insP l F M K) F M J = insP l F M (min (K + J) M) := by
  apply List.ext_getElem?
  intro i
  rw [insP_at _ F M J i (by rw [insP_len l F M K hM hK]; exact hM) hJ, insP_at l F M (min (K + J) M) i hM (by omega), insP_at l F M K i hM hK, insP_at l F M K (i - J) hM hK]
  by_cases h1 : i < F
  · simp only [if_pos h1]
  · by_cases h2 : i < F + J
    · rw [if_neg h1, if_pos h2, if_neg h1, if_pos (by omega)]
    · by_cases h3 : i < F + M
      · rw [if_neg h1, if_neg h2, if_pos h3, if_neg (by omega)]
        by_cases h4 : i - J < F + K
        · rw [if_pos h4, if_neg h1, if_pos (by omega)]
        · rw [if_neg h4, if_pos (by omega), if_neg h1, if_neg (by omega), if_pos h3]
          congr 1; omega
      · rw [if_neg h1, if_neg h2, if_neg h3, if_neg h1, if_neg (by omega), if_neg h3, if_neg h1, if_neg (by omega), if_neg h3]
theorem del_del (l : List Cl) (F M K J : Nat) (hM : F + M ≤ l.length) (hK : K ≤ M) (hJ : J ≤ M) : delP (delP l F M K) F M J = delP l F M (min (K + J) M) := by
  apply List.ext_getElem?
  intro i
  rw [delP_at _ F M J i (by rw [delP_len l F M K hM hK]; exact hM) hJ, delP_at l F M (min (K + J) M) i hM (by omega), delP_at l F M K i hM hK, delP_at l F M K (i + J) hM hK]
  by_cases h1 : i < F
  · simp only [if_pos h1]
  · by_cases h2 : i < F + (M - J)
    · rw [if_neg h1, if_pos h2, if_neg (by omega)]
      by_cases h4 : i + J < F + (M - K)
      · rw [if_pos h4, if_neg h1, if_pos (by omega)]
        congr 1; omega
      · rw [if_neg h4, if_pos (by omega), if_neg h1, if_neg (by omega), if_pos (by omega)]
    · by_cases h3 : i < F + M
      · rw [if_neg h1, if_neg h2, if_pos h3, if_neg h1, if_neg (by omega), if_pos h3]
      · rw [if_neg h1, if_neg h2, if_neg h3, if_neg h1, if_neg (by omega), if_neg h3, if_neg h1, if_neg (by omega)]
theorem cnt_add (M : Nat) (a b : Nat) : cntP M ((a : Int) + b) = min (cntP M a + cntP M b) M := by unfold cntP; omega
end Go.Proofs.YtjljhnahofkmaaaDoor

namespace Go.Proofs.YtjljhnahofkmaaaDoor

open Go.RowKit

/-- Every place by itself: the first k places are done. -/
def updP (φ : Nat → Cl → Cl) (l : List Cl) (k : Nat) : List Cl := l.mapIdx fun j x => if j < k then φ j x else x
section

variable (φ : Nat → Cl → Cl) (l : List Cl) (k : Nat)

theorem updP_len : (updP φ l k).length = l.length := by simp [updP]
theorem updP_zero : updP φ l 0 = l := List.ext_getElem (by simp [updP]) (by simp [updP])
theorem updP_get (j : Nat) (h : j < (updP φ l k).length) : (updP φ l k)[j] = if j < k then φ j (l[j]'(by rw [updP_len] at h; exact h)) else l[j]'(by rw [updP_len] at h; exact h) := by simp [updP]
theorem updP_at (h : k < (updP φ l k).length) : (updP φ l k)[k] = l[k]'(by rw [updP_len] at h; exact h) := by simp [updP]
theorem updP_set (h : k < l.length) (x : Cl) (hx : φ k l[k] = x) : (updP φ l k).set k x = updP φ l (k + 1) := by
  apply List.ext_getElem (by simp [updP])
  intro j h1 h2
  rw [updP_get, List.getElem_set]
  by_cases e : k = j
  · subst e; rw [if_pos rfl, if_pos (by omega), hx]
  · rw [if_neg e, updP_get]
    by_cases hj : j < k
    · rw [if_pos hj, if_pos (by omega)]
    · rw [if_neg hj, if_neg (by omega)]
theorem updP_skip (h : k < l.length) (hx : φ k l[k] = l[k]) : updP φ l (k + 1) = updP φ l k := by
  apply List.ext_getElem (by simp [updP])
  intro j h1 h2
  rw [updP_get, updP_get]
  by_cases e : k = j
  · subst e; rw [if_pos (by omega), if_neg (by omega), hx]
  · by_cases hj : j < k
    · rw [if_pos hj, if_pos (by omega)]
    · rw [if_neg hj, if_neg (by omega)]
end

theorem updP_eq {φ : Nat → Cl → Cl} {l L : List Cl} (hl : L.length = l.length) (h : ∀ j (h1 : j < l.length), L[j]? = some (φ j l[j])) : updP φ l l.length = L := by
  apply List.ext_getElem (by rw [updP_len, hl])
  intro j h1 h2
  have h1' : j < l.length := by rw [updP_len] at h1; exact h1
  rw [updP_get, if_pos h1']
  have := h j h1'
  rw [List.getElem?_eq_getElem h2] at this
  exact (Option.some.inj this).symm
theorem get_self {l : List Cl} {i j : Nat} (e : i = j) (hj : j < l.length) : l[i]? = some l[j] := by subst e; exact List.getElem?_eq_getElem hj
theorem get_dflt {l : List Cl} {i j : Nat} (e : i = j) (hj : j < l.length) : l[i]? = some (l.getD j blankC) := by
  subst e; rw [List.getD_eq_getElem?_getD, List.getElem?_eq_getElem hj]; rfl
theorem get_rep {n i : Nat} (h : i < n) : (List.replicate n blankC)[i]? = some blankC := by rw [List.getElem?_eq_getElem (by simpa using h)]; simp
theorem take_get {l : List Cl} {i n : Nat} (h : i < n) : (l.take n)[i]? = l[i]? := List.getElem?_take_of_lt h

/-- The cell of a place, when a span's cells go on by n. -/
def movC (l : List Cl) (F T : Nat) (n : Int) (j : Nat) (x : Cl) : Cl :=
  if F ≤ j ∧ j < T then (if (F : Int) ≤ j - n ∧ j - n < T then l.getD (j - n).toNat blankC else blankC) else x
theorem mov_ins (l : List Cl) (F T K : Nat) (hT : T ≤ l.length) (hK : K ≤ T - F) : updP (movC l F T K) l l.length = insP l F (T - F) K := by
  by_cases hFT : F ≤ T
  · refine updP_eq (insP_len l F _ K (by omega) hK) fun j h1 => ?_
    have e1 : (l.take F).length = F := by rw [List.length_take]; omega
    have e2 : (l.take F ++ List.replicate K blankC).length = F + K := by rw [List.length_append, e1, List.length_replicate]
    have e3 : (l.take F ++ List.replicate K blankC ++ (l.drop F).take (T - F - K)).length = T := by
      rw [List.length_append, e2, List.length_take, List.length_drop]; omega
    unfold insP movC
    by_cases c1 : j < F
    · rw [if_neg (by omega), List.getElem?_append_left (by omega), List.getElem?_append_left (by omega), List.getElem?_append_left (by omega), take_get c1]; exact get_self rfl h1
    · by_cases c2 : j < F + K
      · rw [if_pos (by omega), if_neg (by omega), List.getElem?_append_left (by omega), List.getElem?_append_left (by omega), List.getElem?_append_right (by omega)]; exact get_rep (by omega)
      · by_cases c3 : j < T
        · rw [if_pos (by omega), if_pos (by omega), List.getElem?_append_left (by omega), List.getElem?_append_right (by omega), take_get (by omega), List.getElem?_drop]; exact get_dflt (by omega) (by omega)
        · rw [if_neg (by omega), List.getElem?_append_right (by omega), List.getElem?_drop]; exact get_self (by omega) h1
  · obtain rfl : K = 0 := by omega
    rw [show T - F = 0 from by omega, insP_none]
    exact updP_eq rfl fun j h1 => by unfold movC; rw [if_neg (by omega)]; exact get_self rfl h1
theorem mov_del (l : List Cl) (F T K : Nat) (hT : T ≤ l.length) (hK : K ≤ T - F) : updP (movC l F T (-(K : Int))) l l.length = delP l F (T - F) K := by
  by_cases hFT : F ≤ T
  · refine updP_eq (delP_len l F _ K (by omega) hK) fun j h1 => ?_
    have e1 : (l.take F).length = F := by rw [List.length_take]; omega
    have e2 : (l.take F ++ (l.drop (F + K)).take (T - F - K)).length = T - K := by
      rw [List.length_append, e1, List.length_take, List.length_drop]; omega
    have e3 : (l.take F ++ (l.drop (F + K)).take (T - F - K) ++ List.replicate K blankC).length = T := by
      rw [List.length_append, e2, List.length_replicate]; omega
    unfold delP movC
    by_cases c1 : j < F
    · rw [if_neg (by omega), List.getElem?_append_left (by omega), List.getElem?_append_left (by omega), List.getElem?_append_left (by omega), take_get c1]; exact get_self rfl h1
    · by_cases c2 : j < T - K
      · rw [if_pos (by omega), if_pos (by omega), List.getElem?_append_left (by omega), List.getElem?_append_left (by omega), List.getElem?_append_right (by omega), take_get (by omega), List.getElem?_drop]; exact get_dflt (by omega) (by omega)
      · by_cases c3 : j < T
        · rw [if_pos (by omega), if_neg (by omega), List.getElem?_append_left (by omega), List.getElem?_append_right (by omega)]; exact get_rep (by omega)
        · rw [if_neg (by omega), List.getElem?_append_right (by omega), List.getElem?_drop]; exact get_self (by omega) h1
  · obtain rfl : K = 0 := by omega
    rw [show T - F = 0 from by omega, delP_none]
    exact updP_eq rfl fun j h1 => by unfold movC; rw [if_neg (by omega)]; exact get_self rfl h1

/-- The cells of a row, laid on those from F on that lie ahead of T. -/
def layP (l : List Cl) (F T : Nat) (row : List Cl) : List Cl := l.take F ++ row.take (T - F) ++ l.drop (F + min (T - F) row.length)
def layC (row : List Cl) (F T j : Nat) (x : Cl) : Cl := if F ≤ j ∧ j < T ∧ j - F < row.length then row.getD (j - F) blankC else x
theorem layP_len (l : List Cl) (F T : Nat) (row : List Cl) (hT : T ≤ l.length) (hF : F ≤ T) : (layP l F T row).length = l.length := by unfold layP; simp; omega
theorem layP_none (l : List Cl) (F T : Nat) (row : List Cl) (hT : T ≤ F) : layP l F T row = l := by
  unfold layP; rw [show T - F = 0 from by omega]; simp
theorem lay_upd (l : List Cl) (F T : Nat) (row : List Cl) (hT : T ≤ l.length) : updP (layC row F T) l l.length = layP l F T row := by
  by_cases hFT : F ≤ T
  · refine updP_eq (layP_len l F T row hT hFT) fun j h1 => ?_
    have e1 : (l.take F).length = F := by rw [List.length_take]; omega
    have e2 : (l.take F ++ row.take (T - F)).length = F + min (T - F) row.length := by rw [List.length_append, e1, List.length_take]
    unfold layP layC
    by_cases c1 : j < F
    · rw [if_neg (by omega), List.getElem?_append_left (by omega), List.getElem?_append_left (by omega), take_get c1]; exact get_self rfl h1
    · by_cases c2 : j < F + min (T - F) row.length
      · rw [if_pos (by omega), List.getElem?_append_left (by omega), List.getElem?_append_right (by omega), take_get (by omega)]; exact get_dflt (by omega) (by omega)
      · rw [if_neg (by omega), List.getElem?_append_right (by omega), List.getElem?_drop]; exact get_self (by omega) h1
  · rw [layP_none l F T row (by omega)]
    exact updP_eq rfl fun j h1 => by unfold layC; rw [if_neg (by omega)]; exact get_self rfl h1
/-- The cells of a span. -/
def cutP (l : List Cl) (F T : Nat) : List Cl := (l.drop F).take (T - F)
theorem cutP_len (l : List Cl) (F T : Nat) (hT : T ≤ l.length) : (cutP l F T).length = T - F := by unfold cutP; rw [List.length_take, List.length_drop]; omega
theorem cutP_step (l : List Cl) (F k : Nat) (h : k < l.length) (hF : F ≤ k) : cutP l F (k + 1) = cutP l F k ++ [l[k]] := by
  unfold cutP
  rw [show k + 1 - F = (k - F) + 1 from by omega, take_snoc (l.drop F) (k - F) (by rw [List.length_drop]; omega)]
  simp only [List.getElem_drop]
  congr 3
  omega
theorem cutP_out (l : List Cl) (F k : Nat) (h : k ≤ F) : cutP l F k = [] := by unfold cutP; rw [show k - F = 0 from by omega]; rfl
theorem lay_back (l row : List Cl) (F T : Nat) (hT : T ≤ l.length) : layP (layP l F T row) F T (cutP l F T) = l := by
  by_cases hFT : F ≤ T
  · have e1 : (l.take F).length = F := by rw [List.length_take]; omega
    have e4 := cutP_len l F T hT
    unfold layP
    rw [e4, Nat.min_self, List.take_of_length_le (l := cutP l F T) (by omega)]
    have e2 : (l.take F ++ row.take (T - F)).length = F + min (T - F) row.length := by rw [List.length_append, e1, List.length_take]
    have h1 : (l.take F ++ row.take (T - F) ++ l.drop (F + min (T - F) row.length)).take F = l.take F := by
      rw [List.append_assoc, List.take_append_of_le_length (by omega), List.take_of_length_le (by omega)]
    have h2 : (l.take F ++ row.take (T - F) ++ l.drop (F + min (T - F) row.length)).drop (F + (T - F)) = l.drop T := by
      rw [List.drop_append, List.drop_eq_nil_of_le (by omega), List.nil_append, e2, List.drop_drop]
      congr 1
      omega
    rw [h1, h2]
    unfold cutP
    rw [List.append_assoc, show l.drop T = (l.drop F).drop (T - F) from by rw [List.drop_drop]; congr 1; omega, List.take_append_drop, List.take_append_drop]
  · rw [layP_none _ F T _ (by omega), layP_none _ F T _ (by omega)]

/-- What was inserted and deleted again. -/
theorem ins_del (l : List Cl) (F M K : Nat) (hM : F + M ≤ l.length) (hK : K ≤ M) : delP (insP l F M K) F M K = l.take (F + (M - K)) ++ List.replicate K blankC ++ l.drop (F + M) := by
  have e1 : (l.take F).length = F := by rw [List.length_take]; omega
  have e2 : (l.take F ++ List.replicate K blankC).length = F + K := by rw [List.length_append, e1, List.length_replicate]
  have e3 : ((l.drop F).take (M - K)).length = M - K := by rw [List.length_take, List.length_drop]; omega
  have e5 : (l.take F ++ List.replicate K blankC ++ (l.drop F).take (M - K)).length = F + M := by rw [List.length_append, e2, e3]; omega
  unfold delP
  have h1 : (insP l F M K).take F = l.take F := by
    unfold insP
    rw [List.append_assoc, List.append_assoc, List.take_append_of_le_length (by omega), List.take_of_length_le (by omega)]
  have h2 : (insP l F M K).drop (F + K) = (l.drop F).take (M - K) ++ l.drop (F + M) := by
    unfold insP
    rw [List.append_assoc (_ ++ _), List.drop_append, List.drop_eq_nil_of_le (by omega), e2, Nat.sub_self, List.nil_append]
    rfl
  have h3 : (insP l F M K).drop (F + M) = l.drop (F + M) := by
    unfold insP
    rw [List.drop_append, List.drop_eq_nil_of_le (by omega), e5, Nat.sub_self, List.nil_append]
    rfl
  have h4 : ((l.drop F).take (M - K) ++ l.drop (F + M)).take (M - K) = (l.drop F).take (M - K) := by
    rw [List.take_append_of_le_length (by omega), List.take_of_length_le (by omega)]
  have h5 : l.take F ++ (l.drop F).take (M - K) = l.take (F + (M - K)) := (List.take_add).symm
  rw [h1, h2, h3, h4, h5]
/-- The same, place by place. -/
theorem back_upd (l : List Cl) (F M K : Nat) (hM : F + M ≤ l.length) (hK : K ≤ M) : updP (fun j x => if F + (M - K) ≤ j ∧ j < F + M then blankC else x) l l.length = delP (insP l F M K) F M K := by
  have e0 : (l.take (F + (M - K))).length = F + (M - K) := by rw [List.length_take]; omega
  have e1 : (l.take (F + (M - K)) ++ List.replicate K blankC).length = F + M := by rw [List.length_append, e0, List.length_replicate]; omega
  rw [ins_del l F M K hM hK]
  refine updP_eq (by rw [List.length_append, e1, List.length_drop]; omega) fun j h1 => ?_
  by_cases c1 : j < F + (M - K)
  · rw [if_neg (by omega), List.getElem?_append_left (by omega), List.getElem?_append_left (by omega), take_get c1]; exact get_self rfl h1
  · by_cases c2 : j < F + M
    · rw [if_pos (by omega), List.getElem?_append_left (by omega), List.getElem?_append_right (by omega)]; exact get_rep (by omega)
    · rw [if_neg (by omega), List.getElem?_append_right (by omega), List.getElem?_drop]; exact get_self (by omega) h1
end Go.Proofs.YtjljhnahofkmaaaDoor

namespace Go.Proofs.YtjljhnahofkmaaaDoor

open Go.RowKit

/-- Is a column within a span of a line? -/
def inP (n : Nat) (f t i : Int) : Bool := decide (0 ≤ i ∧ i < n ∧ f ≤ i ∧ i < t)
theorem inP_nat (n : Nat) (f t : Int) (k : Nat) : inP n f t k = decide (loP f ≤ k ∧ k < hiP n t) := by
  unfold inP loP hiP
  rw [decide_eq_decide]
  omega
theorem inP_int (n : Nat) (f t i : Int) : inP n f t i = decide ((loP f : Int) ≤ i ∧ i < hiP n t) := by
  unfold inP loP hiP
  rw [decide_eq_decide]
  omega
set_option maxRecDepth 100000 in
set_option maxHeartbeats 1000000 in
theorem in_any (A : Option Addr) (n c : Nat) (size i f t : Int) (w : World) :
    Calls Tryd.prog 9 #[lineV A n c size, .int .i64 i, .int .i64 f, .int .i64 t] w fun e w' => e = .returned (.bool (inP n f t i)) ∧ Below w.heap.size w w' := by
  have HB := Lib.hid (show Below w.heap.size w (w.alloc (.cells #[.slice A n c, .int .i64 size] 28)) from (Below.refl _ _).alloc (Nat.le_refl _) _)
  have HP : Hid (inP n f t i = decide (0 ≤ i ∧ i < n ∧ f ≤ i ∧ i < t)) := Lib.hid rfl
  unfold lineV
  generalize inP n f t i = x at *
  by_cases h0 : 0 ≤ i
  · by_cases h1 : i < n
    · by_cases h2 : f ≤ i
      · by_cases h3 : i < t
        · obtain rfl : x = true := by rw [HP.out]; simp [h0, h1, h2, h3]
          have d0 : decide (0 ≤ i) = true := by simp; omega
          have d1 : decide (i < (n : Int)) = true := by simp; omega
          have d2 : decide (f ≤ i) = true := by simp; omega
          have d3 : decide (i < t) = true := by simp; omega
          go_enter Tryd.func9, Tryd.ntmps9
          go_wp2_with fail
          go_ret
          exact ⟨ret_bool rfl, HB.out⟩
        · obtain rfl : x = false := by rw [HP.out]; simp [h3]
          have d0 : decide (0 ≤ i) = true := by simp; omega
          have d1 : decide (i < (n : Int)) = true := by simp; omega
          have d2 : decide (f ≤ i) = true := by simp; omega
          have d3 : decide (i < t) = false := by simp; omega
          go_enter Tryd.func9, Tryd.ntmps9
          go_wp2_with fail
          go_ret
          exact ⟨ret_bool rfl, HB.out⟩
      · obtain rfl : x = false := by rw [HP.out]; simp [h2]
        have d0 : decide (0 ≤ i) = true := by simp; omega
        have d1 : decide (i < (n : Int)) = true := by simp; omega
        have d2 : decide (f ≤ i) = false := by simp; omega
        go_enter Tryd.func9, Tryd.ntmps9
        go_wp2_with fail
        go_ret
        exact ⟨ret_bool rfl, HB.out⟩
    · obtain rfl : x = false := by rw [HP.out]; simp [h1]
      have d0 : decide (0 ≤ i) = true := by simp; omega
      have d1 : decide (i < (n : Int)) = false := by simp; omega
      go_enter Tryd.func9, Tryd.ntmps9
      go_wp2_with fail
      go_ret
      exact ⟨ret_bool rfl, HB.out⟩
  · obtain rfl : x = false := by rw [HP.out]; simp [h0]
    have d0 : decide (0 ≤ i) = false := by simp; omega
    go_enter Tryd.func9, Tryd.ntmps9
    go_wp2_with fail
    go_ret
    exact ⟨ret_bool rfl, HB.out⟩

/-- A line's box is there, and nothing old has changed. -/
def KO (w : World) (x : Array Value) (w' : World) : Prop := Blk w' w.heap.size 28 x ∧ Below w.heap.size w w'
theorem KO.start (w : World) (x : Array Value) : KO w x (w.alloc (.cells x 28)) := ⟨Blk.new w _ x, (Below.refl _ _).alloc (Nat.le_refl _) _⟩
theorem KO.next {w W w' : World} {x : Array Value} (h : KO w x W) (hb : Below W.heap.size W w') : KO w x w' := ⟨h.1.next hb, h.2.trans (hb.mono h.2.size)⟩
theorem KO.two {w W : World} {a b : Value} (h : KO w #[a, b] W) : W.cell? ⟨w.heap.size, 0, none⟩ = some a ∧ W.cell? ⟨w.heap.size, 1, none⟩ = some b := ⟨h.1.cell 0, h.1.cell 1⟩

def firstP (F T : Nat) : Nat := if F < T then F else 0

end Go.Proofs.YtjljhnahofkmaaaDoor

namespace Go.Proofs.YtjljhnahofkmaaaDoor

open Go Go.RowKit

def LnP (n : Nat) (size : Int) (u : Value) : Prop := ∃ A c, u = lineV A n c size ∧ n ≤ c
def LnF (B : Nat) (L : List Cl) (size : Int) (u : Value) (W : World) : Prop := ∃ A c base, u = lineV A L.length c size ∧ B ≤ base ∧ OCells W base (.slice A L.length c) L
theorem ocells_row {w : World} {g : Nat} {l : List Cl} (hl : l.length ≤ 100000) (h : Row w g l) : OCells w g (.slice (some ⟨g, 0, none⟩) l.length l.length) l := by
  refine ⟨flat_len l, .inr ⟨g, l.length, (l.flatMap Cl.cells).toArray, rfl, Nat.le_refl _, h, Nat.le_refl _, by unfold maxLen; omega, (by rw [List.size_toArray]; exact flat_len l), (by rw [List.take_of_length_le (Nat.le_of_eq (flat_len l))])⟩⟩
theorem ocells_capX {w : World} {base : Nat} {A : Option Addr} {n c : Nat} {l : List Cl} (h : OCells w base (.slice A n c) l) : l.length ≤ c := by
  obtain ⟨A', c', e, hc⟩ := OCells.form h
  injection e with _ _ e3
  omega
theorem lnF_stab (ks : Kinds) (wr : World) (L : List Cl) (size : Int) (ht : 37 ∉ boxes ks) : ∀ v w w', Kept ks wr w w' → LnF wr.heap.size L size v w → LnF wr.heap.size L size v w' := by
  rintro v w w' hk ⟨A, c, base, e, hb, ho⟩
  refine ⟨A, c, base, e, hb, ho.1, ?_⟩
  rcases ho.2 with hn | ⟨g, cap, cur, hv, hg, hh, rest⟩
  · exact .inl hn
  · refine .inr ⟨g, cap, cur, hv, hg, ?_, rest⟩
    rw [hk.block g (Blk.lt (show Blk w g _ cur from hh)) (by omega) (fun cs T fr e => by
      have e2 : some (Obj.cells cur 37 (0, 0)) = some (.cells cs T fr) := hh.symm.trans e
      injection e2 with e2
      injection e2 with _ e3 _
      rw [← e3]; exact ht)]
    exact hh
theorem LnF.reads {B : Nat} {L : List Cl} {size : Int} {A : Option Addr} {c n : Nat} {W : World} (hn : n = L.length) (h : LnF B L size (lineV A n c size) W) : RCells W A L := by
  subst hn
  obtain ⟨A', c', base, e, _, ho⟩ := h
  unfold lineV at e
  injection e with e
  injection e with e
  have e2 := List.cons.inj e
  obtain ⟨e3, _⟩ := e2
  injection e3 with e4 e5 e6
  subst e4 e6
  exact OCells.reads ho
section

variable {W : World} {B : Nat} {f : FuncId} {args : Array Value} {n : Nat} {size : Int} {l : List Cl}

/-- What ends in a row of its own. -/
theorem ln_row (hB : B ≤ W.heap.size) (hn : n = l.length) (hl : l.length ≤ 100000) (h : Calls Tryd.prog f args W fun e w' => ∃ g, W.heap.size ≤ g ∧ e = .returned (lineV (some ⟨g, 0, none⟩) n n size) ∧ Row w' g l ∧ Below W.heap.size W w') :
    Calls Tryd.prog f args W fun e w' => ∃ u, e = .returned u ∧ LnP n size u ∧ LnF B l size u w' ∧ Below W.heap.size W w' :=
  h.mono fun e w' ⟨g, hg, he, hr, hb⟩ => ⟨_, he, ⟨_, _, rfl, Nat.le_refl _⟩, ⟨some ⟨g, 0, none⟩, l.length, g, by rw [hn], by omega, ocells_row hl hr⟩, hb⟩
/-- What ends in a slice of its own. -/
theorem ln_own {base : Nat} (hB : B ≤ base) (hn : n = l.length) (h : Calls Tryd.prog f args W fun e w' => ∃ A c, e = .returned (lineV A n c size) ∧ OCells w' base (.slice A n c) l ∧ Below W.heap.size W w') :
    Calls Tryd.prog f args W fun e w' => ∃ u, e = .returned u ∧ LnP n size u ∧ LnF B l size u w' ∧ Below W.heap.size W w' :=
  h.mono fun e w' ⟨A, c, he, ho, hb⟩ => ⟨_, he, ⟨A, c, rfl, by have := ocells_capX ho; omega⟩, ⟨A, c, base, by rw [hn], hB, by subst hn; exact ho⟩, hb⟩
end

def unAgg : Value → Array Value
  | .agg xs => xs
  | _ => #[]
theorem cells2 {w : World} {b : Nat} {T : TypeId} {x y : Value} (h : Blk w b T #[x, y]) : w.cell? ⟨b, 0, none⟩ = some x ∧ w.cell? ⟨b, 1, none⟩ = some y ∧ w.frozen? ⟨b, 0, none⟩ = false ∧ w.frozen? ⟨b, 1, none⟩ = false := ⟨h.cell 0, h.cell 1, h.frozen 0, h.frozen 1⟩
theorem world_gen {P : Program} {c : Code} {Q : Exit → Act → World → Prop} {a : Act} (Φ : World → Prop) {W0 : World} (h : Φ W0) (k : ∀ W, Φ W → c.wp P Q a W) : c.wp P Q a W0 := k _ h
theorem Repl.to {w w' : World} {b : Nat} {T : TypeId} {cs cs' : Array Value} (h : Repl w w' b T cs) (e : cs = cs') : Repl w w' b T cs' := e ▸ h
end Go.Proofs.YtjljhnahofkmaaaDoor

namespace Go.Proofs.YtjljhnahofkmaaaDoor

open Go Go.RowKit

theorem al (w : World) (o : Obj) : Below w.heap.size w (w.alloc o) := (Below.refl _ _).alloc (Nat.le_refl _) _
/-- A slice of cells as a letter. -/
def SlP (n : Nat) (u : Value) : Prop := ∃ A c, u = .slice A n c ∧ n ≤ c
def SlF (B : Nat) (L : List Cl) (u : Value) (W : World) : Prop := ∃ A c base, u = .slice A L.length c ∧ B ≤ base ∧ OCells W base (.slice A L.length c) L
theorem slF_stab (ks : Kinds) (wr : World) (L : List Cl) (ht : 37 ∉ boxes ks) : ∀ v w w', Kept ks wr w w' → SlF wr.heap.size L v w → SlF wr.heap.size L v w' := by
  rintro v w w' hk ⟨A, c, base, e, hb, ho⟩
  refine ⟨A, c, base, e, hb, ho.1, ?_⟩
  rcases ho.2 with hn | ⟨g, cap, cur, hv, hg, hh, rest⟩
  · exact .inl hn
  · refine .inr ⟨g, cap, cur, hv, hg, ?_, rest⟩
    rw [hk.block g (Blk.lt (show Blk w g _ cur from hh)) (by omega) (fun cs T fr e => by
      have e2 : some (Obj.cells cur 37 (0, 0)) = some (.cells cs T fr) := hh.symm.trans e
      injection e2 with e2
      injection e2 with _ e3 _
      rw [← e3]; exact ht)]
    exact hh
theorem sl_own {W : World} {B n : Nat} {f : FuncId} {args : Array Value} {l : List Cl} (hB : B ≤ W.heap.size) (hn : n = l.length) (h : Calls Tryd.prog f args W fun e w' => ∃ v, e = .returned v ∧ OCells w' W.heap.size v l ∧ Below W.heap.size W w') :
    Calls Tryd.prog f args W fun e w' => ∃ u, e = .returned u ∧ SlP n u ∧ SlF B l u w' ∧ Below W.heap.size W w' :=
  h.mono fun e w' ⟨v, he, ho, hb⟩ => by
    obtain ⟨A, c, rfl, hc⟩ := OCells.form ho
    exact ⟨_, he, ⟨A, c, by rw [hn], by omega⟩, ⟨A, c, _, rfl, hB, ho⟩, hb⟩
theorem SlF.own {B n c : Nat} {L : List Cl} {A : Option Addr} {W : World} (h : SlF B L (.slice A n c) W) (hn : n = L.length) : OCells W B (.slice A n c) L := by
  obtain ⟨A', c', base, e, hb, ho⟩ := h
  subst hn
  injection e with e1 e2 e3
  subst e1 e3
  exact World.ownsRow.mono ho hb
/-- A row of one's own stays while its block does. -/
theorem own_block {W W' : World} {b g n c : Nat} {L : List Cl} (h : OCells W b (.slice (some ⟨g, 0, none⟩) n c) L) (e : W'.heap[g]? = W.heap[g]?) : OCells W' b (.slice (some ⟨g, 0, none⟩) n c) L := by
  refine ⟨h.1, ?_⟩
  rcases h.2 with hn | ⟨g', cap, cur, hv, hg, hh, rest⟩
  · exact .inl hn
  · have hv2 := hv
    simp only [Value.slice.injEq, Option.some.injEq, Addr.mk.injEq, and_true] at hv2
    obtain ⟨rfl, _, _⟩ := hv2
    exact .inr ⟨g, cap, cur, hv, hg, e.trans hh, rest⟩
theorem own_blk {W : World} {b g n c : Nat} {L : List Cl} (h : OCells W b (.slice (some ⟨g, 0, none⟩) n c) L) : ∃ cur, Blk W g 37 cur := by
  rcases h.2 with ⟨hv, _⟩ | ⟨g', cap, cur, hv, _, hh, _⟩
  · cases hv
  · simp only [Value.slice.injEq, Option.some.injEq, Addr.mk.injEq, and_true] at hv
    obtain ⟨rfl, _, _⟩ := hv
    exact ⟨cur, hh⟩
/-- Three cells of a block, one behind the other. -/
def set3 (cs : Array Value) (i : Nat) (x : Cl) : Array Value := ((cs.setIfInBounds i (.int .i32 x.g)).setIfInBounds (i + 1) (.int .u8 x.r)).setIfInBounds (i + 2) (.bool x.k)
theorem repl3 {w : World} {b : Nat} {T : TypeId} {cs : Array Value} (h : Blk w b T cs) (i : Nat) (x : Cl) : Repl w (((w.setCell ⟨b, i, none⟩ (.int .i32 x.g)).setCell ⟨b, i + 1, none⟩ (.int .u8 x.r)).setCell ⟨b, i + 2, none⟩ (.bool x.k)) b T (set3 cs i x) :=
  (Repl.set h i _).trans ((Repl.set (h.set_ i _) (i + 1) _).trans (Repl.set ((h.set_ i _).set_ (i + 1) _) (i + 2) _))
theorem own_set {W W' : World} {b g n c : Nat} {L : List Cl} {cur : Array Value} (h : OCells W b (.slice (some ⟨g, 0, none⟩) n c) L) (hn : n = L.length) {k : Nat} (hk : k < L.length) (x : Cl) (hc : Blk W g 37 cur) (h' : Blk W' g 37 (set3 cur (k * 3) x)) :
    OCells W' b (.slice (some ⟨g, 0, none⟩) n c) (L.set k x) := by
  refine own_block (OCells.set3 h hn hk x) ?_
  have e := ((hc.set_ (k * 3) (.int .i32 x.g)).set_ (k * 3 + 1) (.int .u8 x.r)).set_ (k * 3 + 2) (.bool x.k)
  exact h'.trans e.symm
/-- What stands at a place of a row. -/
theorem cur3 {W : World} {b g n c : Nat} {L : List Cl} {cur : Array Value} (h : OCells W b (.slice (some ⟨g, 0, none⟩) n c) L) (hn : n = L.length) {k : Nat} (hk : k < L.length) (hc : Blk W g 37 cur) {w' : World} (hB : Blk w' g 37 cur) :
    w'.cell? ⟨g, k * 3, none⟩ = some (.int .i32 L[k].g) ∧ w'.cell? ⟨g, k * 3 + 1, none⟩ = some (.int .u8 L[k].r) ∧ w'.cell? ⟨g, k * 3 + 2, none⟩ = some (.bool L[k].k) ∧ w'.frozen? ⟨g, k * 3, none⟩ = false ∧ w'.frozen? ⟨g, k * 3 + 1, none⟩ = false ∧ w'.frozen? ⟨g, k * 3 + 2, none⟩ = false := by
  obtain ⟨d0, d1, d2, _⟩ := OCells.cell3 h hn hk
  rw [Blk.cell hc] at d0 d1 d2
  exact ⟨(hB.cell _).trans d0, (hB.cell _).trans d1, (hB.cell _).trans d2, hB.frozen _, hB.frozen _, hB.frozen _⟩
theorem ne_block {W : World} {g B : Nat} {x y : Array Value} (h : Blk W g 37 x) (h' : Blk W B 28 y) : g ≠ B := by
  rintro rfl
  unfold Blk at h h'
  rw [h] at h'
  injection h' with e
  injection e with _ e2
  exact absurd e2 (by decide)
theorem only_far {g : Nat} {W W' : World} (h : Only [g] W W') : W.grownBy W' (some g) := ⟨h.os, h.tape, h.output, h.size, fun k hk hne => h.block k hk (by simp; rintro rfl; exact hne rfl)⟩

/-- What is known in the midst of such a walk: the argument's box and that of what is answered, the box of what is made, its row. -/
structure Mid (w : World) (x y : Array Value) (B : Nat) (A : Option Addr) (n c : Nat) (size : Int) (L : List Cl) (W : World) : Prop where
  kl : KL w x y W
  box : Blk W B 28 #[.slice A n c, .int .i64 size]
  own : OCells W (w.heap.size + 2) (.slice A n c) L
  far : w.heap.size + 2 ≤ B
theorem Mid.next {w W W' : World} {x y : Array Value} {B n c : Nat} {A : Option Addr} {size : Int} {L : List Cl} (h : Mid w x y B A n c size L W) (hb : Below W.heap.size W W') : Mid w x y B A n c size L W' :=
  ⟨h.kl.next hb, h.box.next hb, h.own.next hb, h.far⟩
theorem Mid.set {w W W' : World} {x y : Array Value} {B n c g : Nat} {size : Int} {L L' : List Cl} (h : Mid w x y B (some ⟨g, 0, none⟩) n c size L W) (ho : Only [g] W W') (hg : w.heap.size + 2 ≤ g) (hne : g ≠ B) (hl : OCells W' (w.heap.size + 2) (.slice (some ⟨g, 0, none⟩) n c) L') : Mid w x y B (some ⟨g, 0, none⟩) n c size L' W' :=
  ⟨h.kl.far (only_far ho) hg, h.box.grown (only_far ho) (by simpa using fun e => hne e.symm), hl, h.far⟩
theorem Mid.fin {w W : World} {a b : Value} {B n c : Nat} {A : Option Addr} {size : Int} {L : List Cl} (h : Mid w #[a, b] #[.slice none 0 0, .int .i64 0] B A n c size L W) :
    ((W.setCell ⟨w.heap.size + 1, 0, none⟩ (.slice A n c)).setCell ⟨w.heap.size + 1, 1, none⟩ (.int .i64 size)).cell? ⟨w.heap.size + 1, 0, none⟩ = some (.slice A n c) ∧
    ((W.setCell ⟨w.heap.size + 1, 0, none⟩ (.slice A n c)).setCell ⟨w.heap.size + 1, 1, none⟩ (.int .i64 size)).cell? ⟨w.heap.size + 1, 1, none⟩ = some (.int .i64 size) ∧
    OCells ((W.setCell ⟨w.heap.size + 1, 0, none⟩ (.slice A n c)).setCell ⟨w.heap.size + 1, 1, none⟩ (.int .i64 size)) (w.heap.size + 2) (.slice A n c) L ∧
    Below w.heap.size w ((W.setCell ⟨w.heap.size + 1, 0, none⟩ (.slice A n c)).setCell ⟨w.heap.size + 1, 1, none⟩ (.int .i64 size)) := by
  have h2 := KL.store2 h.kl (.slice A n c) (.int .i64 size)
  exact ⟨(KL.res h2).1, (KL.res h2).2.1, OCells.far (OCells.far h.own (by omega) _ _) (by omega) _ _, h2.2.2⟩

theorem RCells.cell3 {w : World} {ad : Addr} {l : List Cl} (h : RCells w (some ad) l) {k : Nat} (hk : k < l.length) :
    w.cell? (ad.add (k * 3)) = some (.int .i32 l[k].g) ∧ w.cell? ⟨(ad.add (k * 3)).block, (ad.add (k * 3)).off + 1, none⟩ = some (.int .u8 l[k].r) ∧ w.cell? ⟨(ad.add (k * 3)).block, (ad.add (k * 3)).off + 2, none⟩ = some (.bool l[k].k) := by
  obtain ⟨ad', e, _, h0, h1, h2⟩ := h.at_ hk
  injection e with e
  subst e
  exact ⟨h0, h1, h2⟩


end Go.Proofs.YtjljhnahofkmaaaDoor

namespace Go.Proofs.YtjljhnahofkmaaaDoor

open Go Go.RowKit


/-- What is known in the midst of such a walk: the boxes of the arguments and of what is answered, the box of what is made, its row. -/
structure Mid3 (w : World) (x z y : Array Value) (B : Nat) (A : Option Addr) (n c : Nat) (size : Int) (L : List Cl) (W : World) : Prop where
  b0 : Blk W w.heap.size 28 x
  b1 : Blk W (w.heap.size + 1) 37 z
  b2 : Blk W (w.heap.size + 1 + 1) 28 y
  below : Below w.heap.size w W
  box : Blk W B 28 #[.slice A n c, .int .i64 size]
  own : OCells W (w.heap.size + 3) (.slice A n c) L
  far : w.heap.size + 3 ≤ B
theorem Mid3.next {w W W' : World} {x z y : Array Value} {B n c : Nat} {A : Option Addr} {size : Int} {L : List Cl} (h : Mid3 w x z y B A n c size L W) (hb : Below W.heap.size W W') : Mid3 w x z y B A n c size L W' :=
  ⟨h.b0.next hb, h.b1.next hb, h.b2.next hb, h.below.trans (hb.mono h.below.size), h.box.next hb, h.own.next hb, h.far⟩
theorem Mid3.set {w W W' : World} {x z y : Array Value} {B n c g : Nat} {size : Int} {L L' : List Cl} (h : Mid3 w x z y B (some ⟨g, 0, none⟩) n c size L W) (ho : Only [g] W W') (hg : w.heap.size + 3 ≤ g) (hne : g ≠ B) (hl : OCells W' (w.heap.size + 3) (.slice (some ⟨g, 0, none⟩) n c) L') : Mid3 w x z y B (some ⟨g, 0, none⟩) n c size L' W' :=
  ⟨ho.blk h.b0 (by simp; omega), ho.blk h.b1 (by simp; omega), ho.blk h.b2 (by simp; omega), h.below.trans (ho.below h.below.size (by simp; omega)), ho.blk h.box (by simp; omega), hl, h.far⟩
theorem Mid3.fin {w W : World} {x z : Array Value} {B n c : Nat} {A : Option Addr} {size : Int} {L : List Cl} (h : Mid3 w x z #[.slice none 0 0, .int .i64 0] B A n c size L W) :
    ((W.setCell ⟨w.heap.size + 1 + 1, 0, none⟩ (.slice A n c)).setCell ⟨w.heap.size + 1 + 1, 1, none⟩ (.int .i64 size)).cell? ⟨w.heap.size + 1 + 1, 0, none⟩ = some (.slice A n c) ∧
    ((W.setCell ⟨w.heap.size + 1 + 1, 0, none⟩ (.slice A n c)).setCell ⟨w.heap.size + 1 + 1, 1, none⟩ (.int .i64 size)).cell? ⟨w.heap.size + 1 + 1, 1, none⟩ = some (.int .i64 size) ∧
    OCells ((W.setCell ⟨w.heap.size + 1 + 1, 0, none⟩ (.slice A n c)).setCell ⟨w.heap.size + 1 + 1, 1, none⟩ (.int .i64 size)) (w.heap.size + 3) (.slice A n c) L ∧
    Below w.heap.size w ((W.setCell ⟨w.heap.size + 1 + 1, 0, none⟩ (.slice A n c)).setCell ⟨w.heap.size + 1 + 1, 1, none⟩ (.int .i64 size)) := by
  have h2 := (h.b2.set_ 0 (.slice A n c)).set_ 1 (.int .i64 size)
  exact ⟨h2.cell 0, h2.cell 1, OCells.far (OCells.far h.own (by omega) _ _) (by omega) _ _, (h.below.setCell (by simp; omega) _).setCell (by simp; omega) _⟩
theorem mid3_start (w : World) (x z y : Array Value) : Blk (((w.alloc (.cells x 28)).alloc (.cells z 37)).alloc (.cells y 28)) w.heap.size 28 x ∧ Blk (((w.alloc (.cells x 28)).alloc (.cells z 37)).alloc (.cells y 28)) (w.heap.size + 1) 37 z ∧ Blk (((w.alloc (.cells x 28)).alloc (.cells z 37)).alloc (.cells y 28)) (w.heap.size + 1 + 1) 28 y ∧ Below w.heap.size w (((w.alloc (.cells x 28)).alloc (.cells z 37)).alloc (.cells y 28)) := by
  have h1 := Blk.new (w.alloc (.cells x 28)) 37 z
  have h2 := Blk.new ((w.alloc (.cells x 28)).alloc (.cells z 37)) 28 y
  simp at h1 h2
  exact ⟨((Blk.new w _ x).alloc _).alloc _, h1.alloc _, h2, (((Below.refl _ _).alloc (Nat.le_refl _) _).alloc (by simp) _).alloc (by simp; omega) _⟩
/-- A deed, done with what lies within a span. -/
def deedC (φ : Cl → Cl) (F T j : Nat) (x : Cl) : Cl := if F ≤ j ∧ j < T then φ x else x
theorem cells3 {w : World} {b : Nat} {T : TypeId} {x y z : Value} (h : Blk w b T #[x, y, z]) : w.cell? ⟨b, 0, none⟩ = some x ∧ w.cell? ⟨b, 1, none⟩ = some y ∧ w.cell? ⟨b, 2, none⟩ = some z := ⟨h.cell 0, h.cell 1, h.cell 2⟩


end Go.Proofs.YtjljhnahofkmaaaDoor

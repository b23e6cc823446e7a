/-
  Cells that are inserted and deleted, place by place: some and some more are all of them.
-/
import Derived.Test.YtbndnaohjloanaaDoorLineO
namespace Go.Proofs.YtbndnaohjloanaaDoor

open Go.RowKit

theorem insP_at (l : List Cl) (F M K i : Nat) (hM : F + M ≤ l.length) (hK : K ≤ M) :
    (insP l F M K)[i]? = if i < F then l[i]? else if i < F + K then some blankC else if i < F + M then l[i - K]? else l[i]? := by
  unfold insP
  simp only [List.getElem?_append, List.length_append, List.length_take, List.length_replicate, List.length_drop, List.getElem?_take, List.getElem?_drop, List.getElem?_replicate]
  have e1 : min F l.length = F := by omega
  have e2 : min (M - K) (l.length - F) = M - K := by omega
  rw [e1, e2]
  by_cases h1 : i < F
  · rw [if_pos (by omega), if_pos (by omega), if_pos h1, if_pos h1, if_pos h1]
  · by_cases h2 : i < F + K
    · rw [if_pos (by omega), if_pos (by omega), if_neg h1, if_pos (by omega), if_neg h1, if_pos h2]
    · by_cases h3 : i < F + M
      · rw [if_pos (by omega), if_neg (by omega), if_pos (by omega), if_neg h1, if_neg h2, if_pos h3]
        congr 1; omega
      · rw [if_neg (by omega), if_neg h1, if_neg h2, if_neg h3]
        congr 1; omega
theorem delP_at (l : List Cl) (F M K i : Nat) (hM : F + M ≤ l.length) (hK : K ≤ M) :
    (delP l F M K)[i]? = if i < F then l[i]? else if i < F + (M - K) then l[i + K]? else if i < F + M then some blankC else l[i]? := by
  unfold delP
  simp only [List.getElem?_append, List.length_append, List.length_take, List.length_replicate, List.length_drop, List.getElem?_take, List.getElem?_drop, List.getElem?_replicate]
  have e1 : min F l.length = F := by omega
  have e2 : min (M - K) (l.length - (F + K)) = M - K := by omega
  rw [e1, e2]
  by_cases h1 : i < F
  · rw [if_pos (by omega), if_pos (by omega), if_pos h1, if_pos h1, if_pos h1]
  · by_cases h2 : i < F + (M - K)
    · rw [if_pos (by omega), if_pos (by omega), if_neg h1, if_pos (by omega), if_neg h1, if_pos h2]
      congr 1; omega
    · by_cases h3 : i < F + M
      · rw [if_pos (by omega), if_neg (by omega), if_pos (by omega), if_neg h1, if_neg h2, if_pos h3]
      · rw [if_neg (by omega), if_neg h1, if_neg h2, if_neg h3]
        congr 1; omega
theorem ins_ins (l : List Cl) (F M K J : Nat) (hM : F + M ≤ l.length) (hK : K ≤ M) (hJ : J ≤ M) : insP (insP l F M K) F M J = insP l F M (min (K + J) M) := by
  apply List.ext_getElem?
  intro i
  rw [insP_at _ F M J i (by rw [insP_len l F M K hM hK]; exact hM) hJ, insP_at l F M (min (K + J) M) i hM (by omega), insP_at l F M K i hM hK, insP_at l F M K (i - J) hM hK]
  by_cases h1 : i < F
  · simp only [if_pos h1]
  · by_cases h2 : i < F + J
    · rw [if_neg h1, if_pos h2, if_neg h1, if_pos (by omega)]
    · by_cases h3 : i < F + M
      · rw [if_neg h1, if_neg h2, if_pos h3, if_neg (by omega)]
        by_cases h4 : i - J < F + K
        · rw [if_pos h4, if_neg h1, if_pos (by omega)]
        · rw [if_neg h4, if_pos (by omega), if_neg h1, if_neg (by omega), if_pos h3]
          congr 1; omega
      · rw [if_neg h1, if_neg h2, if_neg h3, if_neg h1, if_neg (by omega), if_neg h3, if_neg h1, if_neg (by omega), if_neg h3]
theorem del_del (l : List Cl) (F M K J : Nat) (hM : F + M ≤ l.length) (hK : K ≤ M) (hJ : J ≤ M) : delP (delP l F M K) F M J = delP l F M (min (K + J) M) := by
  apply List.ext_getElem?
  intro i
  rw [delP_at _ F M J i (by rw [delP_len l F M K hM hK]; exact hM) hJ, delP_at l F M (min (K + J) M) i hM (by omega), delP_at l F M K i hM hK, delP_at l F M K (i + J) hM hK]
  by_cases h1 : i < F
  · simp only [if_pos h1]
  · by_cases h2 : i < F + (M - J)
    · rw [if_neg h1, if_pos h2, if_neg (by omega)]
      by_cases h4 : i + J < F + (M - K)
      · rw [if_pos h4, if_neg h1, if_pos (by omega)]
        congr 1; omega
      · rw [if_neg h4, if_pos (by omega), if_neg h1, if_neg (by omega), if_pos (by omega)]
    · by_cases h3 : i < F + M
      · rw [if_neg h1, if_neg h2, if_pos h3, if_neg h1, if_neg (by omega), if_pos h3]
      · rw [if_neg h1, if_neg h2, if_neg h3, if_neg h1, if_neg (by omega), if_neg h3, if_neg h1, if_neg (by omega)]
theorem cnt_add (M : Nat) (a b : Nat) : cntP M ((a : Int) + b) = min (cntP M a + cntP M b) M := by unfold cntP; omega
end Go.Proofs.YtbndnaohjloanaaDoor

/-
  What inserting and deleting cells makes of a row.
-/
import Derived.Test.YtbndnaohjloanaaDoorLineN
namespace Go.Proofs.YtbndnaohjloanaaDoor

open Go.RowKit

/-- K new cells at the beginning of the M cells from F on; the last ones of these are lost. -/
def insP (l : List Cl) (F M K : Nat) : List Cl := l.take F ++ List.replicate K blankC ++ (l.drop F).take (M - K) ++ l.drop (F + M)
/-- K cells at the beginning of the M cells from F on go. -/
def delP (l : List Cl) (F M K : Nat) : List Cl := l.take F ++ (l.drop (F + K)).take (M - K) ++ List.replicate K blankC ++ l.drop (F + M)
theorem insP_none (l : List Cl) (F : Nat) : insP l F 0 0 = l := by simp [insP]
theorem delP_none (l : List Cl) (F : Nat) : delP l F 0 0 = l := by simp [delP]
theorem insP_len (l : List Cl) (F M K : Nat) (hM : F + M ≤ l.length) (hK : K ≤ M) : (insP l F M K).length = l.length := by unfold insP; simp; omega
theorem delP_len (l : List Cl) (F M K : Nat) (hM : F + M ≤ l.length) (hK : K ≤ M) : (delP l F M K).length = l.length := by unfold delP; simp; omega
theorem ins_steps (l : List Cl) (F M K : Nat) (hM : F + M ≤ l.length) (hK : K ≤ M) :
    eraseP (l.take (F + K) ++ (l.drop F).take (M - K) ++ l.drop (F + K + (M - K))) F K = insP l F M K := by
  unfold eraseP insP
  have e : F + K + (M - K) = F + M := by omega
  have h1 : (l.take (F + K) ++ (l.drop F).take (M - K) ++ l.drop (F + M)).take F = l.take F := by
    rw [List.append_assoc, List.take_append_of_le_length (by simp; omega), List.take_take, Nat.min_eq_left (by omega)]
  have h2 : (l.take (F + K) ++ (l.drop F).take (M - K) ++ l.drop (F + M)).drop (F + K) = (l.drop F).take (M - K) ++ l.drop (F + M) := by
    have h3 : (l.take (F + K)).length = F + K := by simp; omega
    rw [List.append_assoc, List.drop_append_of_le_length (by omega), List.drop_eq_nil_of_le (by omega), List.nil_append]
  rw [e, h1, h2]
  simp
theorem del_steps (l : List Cl) (F M K : Nat) (hM : F + M ≤ l.length) (hK : K ≤ M) :
    eraseP (l.take F ++ (l.drop (F + K)).take (M - K) ++ l.drop (F + (M - K))) (F + (M - K)) K = delP l F M K := by
  unfold eraseP delP
  have h0 : (l.take F ++ (l.drop (F + K)).take (M - K)).length = F + (M - K) := by simp; omega
  have h1 : (l.take F ++ (l.drop (F + K)).take (M - K) ++ l.drop (F + (M - K))).take (F + (M - K)) = l.take F ++ (l.drop (F + K)).take (M - K) := by
    rw [List.take_append_of_le_length (by omega), List.take_of_length_le (by omega)]
  have h2 : (l.take F ++ (l.drop (F + K)).take (M - K) ++ l.drop (F + (M - K))).drop (F + (M - K) + K) = l.drop (F + M) := by
    rw [List.drop_append, List.drop_eq_nil_of_le (by omega), List.nil_append, h0, List.drop_drop]
    congr 1
    omega
  rw [h1, h2]
/-- What lies in a row from a place on. -/
theorem row_src {w : World} {g F m : Nat} {l : List Cl} (h : Row w g l) (hF : F ≤ l.length) : ∀ j v, (((l.drop F).take m).flatMap Cl.cells)[j]? = some v → w.cell? ((⟨g, F * 3, none⟩ : Addr).add j) = some v := by
  intro j v hv
  have ha : (⟨g, F * 3, none⟩ : Addr).add j = ⟨g, F * 3 + j, none⟩ := by unfold Addr.add; split <;> simp_all
  rw [ha, Blk.cell h]
  have e1 : l.flatMap Cl.cells = (l.take F).flatMap Cl.cells ++ (((l.drop F).take m).flatMap Cl.cells ++ ((l.drop F).drop m).flatMap Cl.cells) := by
    rw [← List.flatMap_append, ← List.flatMap_append, List.take_append_drop, List.take_append_drop]
  have hl : ((l.take F).flatMap Cl.cells).length = F * 3 := by rw [flat_len, List.length_take]; omega
  have hj : j < (((l.drop F).take m).flatMap Cl.cells).length := by
    rcases Nat.lt_or_ge j (((l.drop F).take m).flatMap Cl.cells).length with h' | h'
    · exact h'
    · rw [List.getElem?_eq_none h'] at hv; cases hv
  rw [List.getElem?_toArray, e1, List.getElem?_append_right (by omega), hl, Nat.add_sub_cancel_left, List.getElem?_append_left hj]
  exact hv

end Go.Proofs.YtbndnaohjloanaaDoor

/-
  The plain mathematics of runs: a row as runs, grown cell by cell.
-/
import Derived.Test.YtgndjonalhdhkaaDoorPackA
import Derived.Test.YtgndjonalhdhkaaDoorPackB
namespace Go.Proofs.YtgndjonalhdhkaaDoor

open Go.RowKit

/-- A run: a cell, and how many. -/
abbrev Rn := Cl × Nat
/-- One cell more. -/
def addR (rs : List Rn) (c : Cl) : List Rn :=
  match rs.getLast? with
  | none => [(c, 1)]
  | some (x, n) => if takesC n x c then rs.dropLast ++ [(x, n + 1)] else rs ++ [(c, 1)]
def runsL (l : List Cl) : List Rn := l.foldl addR []
theorem runsL_snoc (l : List Cl) (k : Nat) (hk : k < l.length) : runsL (l.take (k + 1)) = addR (runsL (l.take k)) l[k] := foldl_snoc addR [] l k hk
theorem addR_nil (c : Cl) : addR [] c = [(c, 1)] := rfl
theorem addR_yes (pre : List Rn) (x c : Cl) (n : Nat) (h : takesC n x c = true) : addR (pre ++ [(x, n)]) c = pre ++ [(x, n + 1)] := by
  simp [addR, h]
theorem addR_no (pre : List Rn) (x c : Cl) (n : Nat) (h : takesC n x c = false) : addR (pre ++ [(x, n)]) c = pre ++ [(x, n)] ++ [(c, 1)] := by
  simp [addR, h]
/-- Each run holds 1 to 255 cells, and all of them are the row. -/
def OkRuns (rs : List Rn) : Prop := ∀ x ∈ rs, x.1.ok ∧ 1 ≤ x.2 ∧ x.2 ≤ 255
def flatR (rs : List Rn) : List Cl := rs.flatMap fun x => List.replicate x.2 x.1
theorem list_end {α : Type} (l : List α) (h : l ≠ []) : ∃ pre x, l = pre ++ [x] := ⟨l.dropLast, l.getLast h, (List.dropLast_concat_getLast h).symm⟩
theorem takesC_iff (n : Int) (x y : Cl) : takesC n x y = true ↔ (0 < n ∧ n < 255 ∧ x = y) := by
  simp [takesC, Cl.beq_iff]
theorem addR_ok {rs : List Rn} {c : Cl} (h : OkRuns rs) (hc : c.ok) : OkRuns (addR rs c) ∧ flatR (addR rs c) = flatR rs ++ [c] ∧ (addR rs c).length ≤ rs.length + 1 := by
  by_cases h0 : rs = []
  · subst h0
    exact ⟨fun x hx => by obtain rfl : x = (c, 1) := by simpa [addR] using hx
                          exact ⟨hc, Nat.le_refl 1, show 1 ≤ 255 from by decide⟩, by simp [addR, flatR], by simp [addR]⟩
  · obtain ⟨pre, ⟨x, n⟩, rfl⟩ := list_end rs h0
    have hx := h (x, n) (by simp)
    cases ht : takesC n x c
    · rw [addR_no pre x c n ht]
      refine ⟨fun y hy => ?_, by simp [flatR], by simp⟩
      rcases List.mem_append.1 hy with hy | hy
      · exact h y hy
      · obtain rfl : y = (c, 1) := by simpa using hy
        exact ⟨hc, Nat.le_refl 1, show 1 ≤ 255 from by decide⟩
    · rw [addR_yes pre x c n ht]
      obtain ⟨t0, t1, rfl⟩ := (takesC_iff n x c).1 ht
      refine ⟨fun y hy => ?_, by simp [flatR, List.replicate_succ'], by simp⟩
      rcases List.mem_append.1 hy with hy | hy
      · exact h y (List.mem_append_left _ hy)
      · obtain rfl : y = (x, n + 1) := by simpa using hy
        exact ⟨hc, by show 1 ≤ n + 1; omega, by show n + 1 ≤ 255; omega⟩
theorem runsL_ok (l : List Cl) (h : OkCells l) : OkRuns (runsL l) ∧ flatR (runsL l) = l ∧ (runsL l).length ≤ l.length := by
  suffices H : ∀ (m : List Cl) (rs : List Rn), OkRuns rs → OkCells m → OkRuns (m.foldl addR rs) ∧ flatR (m.foldl addR rs) = flatR rs ++ m ∧ (m.foldl addR rs).length ≤ rs.length + m.length by
    have := H l [] (fun _ h => by simp at h) h
    exact ⟨this.1, this.2.1.trans (by simp [flatR]), Nat.le_trans this.2.2 (by simp)⟩
  intro m
  induction m with
  | nil => intro rs h1 _; exact ⟨h1, by simp, by simp⟩
  | cons c m ih =>
    intro rs h1 h2
    obtain ⟨a1, a2, a3⟩ := addR_ok h1 (h2 c List.mem_cons_self)
    obtain ⟨b1, b2, b3⟩ := ih (addR rs c) a1 (fun x hx => h2 x (List.mem_cons_of_mem _ hx))
    exact ⟨b1, by rw [List.foldl_cons, b2, a2, List.append_assoc]; rfl, by rw [List.foldl_cons, List.length_cons]; omega⟩
/-- The row's bytes. -/
def encL (rs : List Rn) : List Int := rs.flatMap fun x => run7 x.1 x.2
end Go.Proofs.YtgndjonalhdhkaaDoor

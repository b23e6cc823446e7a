/-
  The walk that reads a text of numbers.
-/
import Derived.Test.YtpiliicphoacfaaParD
namespace Go.Proofs.Ytpiliicphoacfaa

open Go.RowKit


theorem first_bad (l : List UInt8) (h : ¬ OkB l) : ∃ k, ∃ hk : k < l.length, okb l[k] = false ∧ OkB (l.take k) := by
  induction l with
  | nil => exact absurd (fun b hb => by simp at hb) h
  | cons b l ih =>
    by_cases hb : okb b = true
    · have h' : ¬ OkB l := fun hl => h (fun x hx => by
        rcases List.mem_cons.1 hx with rfl | hx
        · exact hb
        · exact hl x hx)
      obtain ⟨k, hk, h1, h2⟩ := ih h'
      exact ⟨k + 1, by simp; omega, by simpa using h1, fun x hx => by
        rw [List.take_succ_cons] at hx
        rcases List.mem_cons.1 hx with rfl | hx
        · exact hb
        · exact h2 x hx⟩
    · exact ⟨0, by simp, by simpa using hb, fun x hx => by simp at hx⟩


end Go.Proofs.Ytpiliicphoacfaa

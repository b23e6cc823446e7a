/-
  The walk that makes a line of its own of an argument.
-/
import Derived.Test.YtflnjlcdpmmjlaaDoorLineJ
namespace Go.Proofs.YtflnjlcdpmmjlaaDoor

open Go.RowKit

set_option maxRecDepth 100000 in
set_option maxHeartbeats 2000000 in
theorem lawOwn_any (A0 : Option Addr) (c0 : Nat) (l : List Cl) (size : Int) (hl : l.length ≤ maxLen) (hc0 : l.length ≤ c0) (w : World) (hr : RCells w A0 l) :
    Calls Tryd.prog 6 #[lineV A0 l.length c0 size] w fun e w' => ∃ A c, e = .returned (lineV A (l.take 300).length c size) ∧ OCells w' (w.heap.size + 2) (.slice A (l.take 300).length c) (l.take 300) ∧ Below w.heap.size w w' := by
  unfold maxLen at hl
  have hle : (l.take 300).length ≤ 300 := by rw [List.length_take]; omega
  have HC := Lib.hid (fun W c h => cells_any A0 c (l.take 300) (by omega) W h)
  have HR := Lib.hid (hr.take 300)
  clear hr
  unfold lineV
  have hcase : (l.length ≤ 300 ∧ (l.take 300).length = l.length) ∨ (300 < l.length ∧ (l.take 300).length = 300) := by rw [List.length_take]; omega
  have HK := Lib.hid (KL.start w #[.slice A0 l.length c0, .int .i64 size] #[.slice none 0 0, .int .i64 0])
  generalize l.take 300 = t at *
  generalize ht : t.length = m at *
  have HT := Lib.hid ht
  clear ht
  generalize l.length = n at *
  clear l
  have hcase2 : (n = m ∧ decide (300 < (n : Int)) = false) ∨ (m = 300 ∧ decide (300 < (n : Int)) = true ∧ 300 ≤ c0) := by
    rcases hcase with ⟨h1, h2⟩ | ⟨h1, h2⟩
    · exact .inl ⟨h2.symm, by simp; omega⟩
    · exact .inr ⟨h2, by simp; omega, by omega⟩
  clear hcase
  rcases hcase2 with ⟨rfl, hd⟩ | ⟨rfl, hd, hc3⟩
  all_goals
    go_enter Tryd.func6, Tryd.ntmps6
    go_wp2_with fail
    go_region_held3 (fun w' => w'.cell? ⟨w.heap.size, 1, none⟩ = some (.int .i64 size)) (first | go_keep | exact (KL.first (Hid.out ‹Hid (KL w _ _ w1)›)).2.1)
      (first | (go_at_call 27; refine (HC.out _ _ ?_).mono ?_; (exact HR.out.next (by first | exact HK.out.2.2 | exact HK.out.2.2.drew)); rintro e w1 ⟨v, rfl, hown, hb1⟩; have HKL1 : Hid (KL w _ _ w1) := Lib.hid (KL.next (by first | exact HK.out | exact HK.out.drew) hb1); obtain ⟨A, c, rfl, hc⟩ := OCells.form hown; rw [HT.out] at hown; rw [HT.out]; have HOwn : Hid (OCells w1 (w.heap.size + 2) _ t) := Lib.hid (by simpa using hown); clear hown hb1; obtain ⟨c2, c3, f2, f3⟩ := KL.res HKL1.out))
    all_goals
      have HK2 := Lib.hid (KL.store2 HKL1.out (.slice A t.length c) (.int .i64 size))
      rw [HT.out] at HK2
      obtain ⟨e0, e1, _, _⟩ := KL.res HK2.out
      have HO2 := Lib.hid (OCells.far (OCells.far HOwn.out (g := w.heap.size + 1) (by omega) 0 (.slice A t.length c)) (g := w.heap.size + 1) (by omega) 1 (.int .i64 size))
      rw [HT.out] at HO2
      go_wp2_with fail
      exact bodyPost_ret (v := .agg #[.slice A _ c, .int .i64 size]) (by simp [results, Tryd.results6, go_sem, e0, e1]) rfl ⟨A, c, rfl, HO2.out, HK2.out.2.2⟩
end Go.Proofs.YtflnjlcdpmmjlaaDoor

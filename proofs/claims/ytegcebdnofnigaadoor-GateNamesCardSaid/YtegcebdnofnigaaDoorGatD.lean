/-
  A function's name and level; what the table says of them.
-/
import Derived.Test.YtegcebdnofnigaaDoorGatC
namespace Go.Proofs.YtegcebdnofnigaaDoor
open Go Go.RowKit

set_option maxRecDepth 100000 in
theorem name_any (f : Int) (w : World) : Calls Tryd.prog 5 #[.int .i64 f] w fun e w' => e = .returned (.string (factF f).nm) ∧ Below w.heap.size w w' := by
  have H := Lib.hid (fact_any f w)
  generalize factF f = x at *
  obtain ⟨n, nm, ib, lv⟩ := x
  unfold Fct.val at H
  simp only at H ⊢
  have hfd : ∀ W, (Instr.field 34 (.agg #[.int .i64 n, .string nm, .string ib, .int .i64 lv]) 1).run Tryd.prog W = .ok (.string nm) W := fun W => by kernel_rfl
  go_enter Tryd.func5, Tryd.ntmps5
  go_wp2_with fail
  refine H.out.mono ?_
  rintro e w1 ⟨rfl, hb⟩
  have HB := Lib.hid hb
  clear hb
  go_wp2_with fail
  go_ret
  exact ⟨rfl, HB.out⟩
set_option maxRecDepth 100000 in
theorem level_any (f : Int) (w : World) : Calls Tryd.prog 6 #[.int .i64 f] w fun e w' => e = .returned (.int .i64 (factF f).lv) ∧ Below w.heap.size w w' := by
  have H := Lib.hid (fact_any f w)
  generalize factF f = x at *
  obtain ⟨n, nm, ib, lv⟩ := x
  unfold Fct.val at H
  simp only at H ⊢
  have hfd : ∀ W, (Instr.field 34 (.agg #[.int .i64 n, .string nm, .string ib, .int .i64 lv]) 3).run Tryd.prog W = .ok (.int .i64 lv) W := fun W => by kernel_rfl
  go_enter Tryd.func6, Tryd.ntmps6
  go_wp2_with fail
  refine H.out.mono ?_
  rintro e w1 ⟨rfl, hb⟩
  have HB := Lib.hid hb
  clear hb
  go_wp2_with fail
  go_ret
  exact ⟨rfl, HB.out⟩
/-! ### what the table says -/
def nmN (i : Nat) : List Nat := (factF ((i : Int) + 1)).nm.data.toList.map (·.toNat)
theorem tab_nodup : ((List.range 112).map nmN).Nodup := by decide +kernel
theorem tab_there : ∀ i : Nat, i < 112 → (factF ((i : Int) + 1)).nm.size ≠ 0 ∧ 0 < (factF ((i : Int) + 1)).lv ∧ (factF ((i : Int) + 1)).lv ≤ 5 := by decide +kernel
theorem tab_range : (restF 2).all (fun x => decide (1 ≤ x.n) && decide (x.n ≤ 112)) = true := by decide +kernel
theorem getF_none (f : Int) : ∀ l : List Fct, (∀ x ∈ l, x.n ≠ f) → getF f l = zeroF
  | [], _ => rfl
  | x :: l, h => by
    show (if x.n = f then x else getF f l) = zeroF
    rw [if_neg (h x (by simp)), getF_none f l (fun y hy => h y (by simp [hy]))]
theorem fact_none (f : Int) (h : ¬ (1 ≤ f ∧ f ≤ 112)) : factF f = zeroF := by
  unfold factF
  rw [if_neg (by omega)]
  refine getF_none f _ (fun x hx => ?_)
  have := List.all_eq_true.1 tab_range x hx
  simp at this
  omega
theorem fact_there (f : Int) (h : 1 ≤ f ∧ f ≤ 112) : (factF f).nm.size ≠ 0 ∧ 0 < (factF f).lv ∧ (factF f).lv ≤ 5 := by
  have := tab_there (f - 1).toNat (by omega)
  rw [show (((f - 1).toNat : Nat) : Int) + 1 = f by omega] at this
  exact this
theorem fact_unlike (a b : Int) (ha : 1 ≤ a ∧ a ≤ 112) (hne : a ≠ b) : (factF a).nm ≠ (factF b).nm := by
  by_cases hb : 1 ≤ b ∧ b ≤ 112
  · intro e
    have h1 : nmN (a - 1).toNat = nmN (b - 1).toNat := by
      unfold nmN
      rw [show (((a - 1).toNat : Nat) : Int) + 1 = a by omega, show (((b - 1).toNat : Nat) : Int) + 1 = b by omega, e]
    have h2 : (a - 1).toNat = (b - 1).toNat := by
      have hA : (a - 1).toNat < ((List.range 112).map nmN).length := by simp; omega
      have hB : (b - 1).toNat < ((List.range 112).map nmN).length := by simp; omega
      refine (List.getElem_inj (h₀ := hA) (h₁ := hB) tab_nodup).1 ?_
      simpa using h1
    omega
  · rw [fact_none b hb]
    intro e
    have := (fact_there a ha).1
    rw [e] at this
    exact this rfl
end Go.Proofs.YtegcebdnofnigaaDoor

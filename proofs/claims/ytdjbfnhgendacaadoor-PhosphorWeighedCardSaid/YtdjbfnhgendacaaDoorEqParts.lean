/-
  Two renditions' parts held against each other.
-/
import Derived.Test.YtdjbfnhgendacaaDoorRendC
import Derived.Laws.StructEq
namespace Go.Proofs.YtdjbfnhgendacaaDoor
open Go.RowKit

theorem stood31 : Tryd.prog.stoodInHeld 31 = false := by kernel_rfl
theorem guard31 : Tryd.prog.eqGuardType Tryd.prog.depth 31 = false := by kernel_rfl
theorem fields31 : (Tryd.prog.fieldsOf 31).toList.map (fun f => (f.name != "_", f.type, f.offset)) = [(true, 4, 0), (true, 4, 1), (true, 4, 2), (true, 4, 3), (true, 4, 4)] := by kernel_rfl
theorem under31 : Tryd.prog.underlying 31 = some (.struct (Tryd.prog.fieldsOf 31)) := by kernel_rfl
theorem part_bool (W : World) (xs : Array Value) (i : Nat) (v : Value) (h : xs[i]? = some v) : (part 4 xs i).run Tryd.prog W = .ok v W := by
  simp [part, h]
theorem eql_parts (W : World) (x y : Int) : (binOp .eql 31 (parts x) (parts y)).run Tryd.prog W = .ok (.bool (wt x == wt y)) W := by
  unfold parts
  rw [run_eql_struct, show (10000 : Nat) = 9998 + 1 + 1 from rfl]
  generalize 9998 = m
  rw [run_equalIn_struct W (m + 1) 31 _ _ under31 stood31]
  obtain ⟨fs, hfs⟩ : ∃ fs, (Tryd.prog.fieldsOf 31).toList = fs := ⟨_, rfl⟩
  have hf := fields31
  rw [hfs] at hf ⊢
  match fs, hf with
  | [f0, f1, f2, f3, f4], hf =>
    simp only [List.map_cons, List.map_nil, List.cons.injEq, Prod.mk.injEq, bne_iff_ne, and_true] at hf
    obtain ⟨⟨n0, t0, o0⟩, ⟨n1, t1, o1⟩, ⟨n2, t2, o2⟩, ⟨n3, t3, o3⟩, ⟨n4, t4, o4⟩⟩ := hf
    have P := fun (xs : Array Value) i v h => part_bool W xs i v h
    have E : ∀ a b : Bool, (Op.equalIn (m + 1) 4 (.bool a) (.bool b)).run Tryd.prog W = .ok (a == b) W := fun a b => run_equalIn_bool' W m 4 a b Tryd.underlying4
    have hw : (wt x == wt y) = (fb x 0 == fb y 0 && (fb x 1 == fb y 1 && (fb x 2 == fb y 2 && (fb x 3 == fb y 3 && fb x 4 == fb y 4)))) := by
      rw [Bool.eq_iff_iff]
      simp only [beq_iff_eq, Bool.and_eq_true]
      exact wt_inj x y
    rw [hw]
    generalize fb x 0 = a0; generalize fb x 1 = a1; generalize fb x 2 = a2; generalize fb x 3 = a3; generalize fb x 4 = a4
    generalize fb y 0 = b0; generalize fb y 1 = b1; generalize fb y 2 = b2; generalize fb y 3 = b3; generalize fb y 4 = b4
    simp only [Op.eqFields, t0, t1, t2, t3, t4, o0, o1, o2, o3, o4, n0, n1, n2, n3, n4, ne_eq, not_false_eq_true, if_true, Sem.run_bind,
      P #[.bool a0, .bool a1, .bool a2, .bool a3, .bool a4] 0 (.bool a0) rfl, P #[.bool a0, .bool a1, .bool a2, .bool a3, .bool a4] 1 (.bool a1) rfl, P #[.bool a0, .bool a1, .bool a2, .bool a3, .bool a4] 2 (.bool a2) rfl, P #[.bool a0, .bool a1, .bool a2, .bool a3, .bool a4] 3 (.bool a3) rfl, P #[.bool a0, .bool a1, .bool a2, .bool a3, .bool a4] 4 (.bool a4) rfl,
      P #[.bool b0, .bool b1, .bool b2, .bool b3, .bool b4] 0 (.bool b0) rfl, P #[.bool b0, .bool b1, .bool b2, .bool b3, .bool b4] 1 (.bool b1) rfl, P #[.bool b0, .bool b1, .bool b2, .bool b3, .bool b4] 2 (.bool b2) rfl, P #[.bool b0, .bool b1, .bool b2, .bool b3, .bool b4] 3 (.bool b3) rfl, P #[.bool b0, .bool b1, .bool b2, .bool b3, .bool b4] 4 (.bool b4) rfl,
      Result.andThen_ok, E, Sem.run_ite, Sem.run_pure]
    by_cases e0 : a0 = b0
    · by_cases e1 : a1 = b1
      · by_cases e2 : a2 = b2
        · by_cases e3 : a3 = b3
          · by_cases e4 : a4 = b4
            · subst e0 e1 e2 e3 e4; simp
            · subst e0 e1 e2 e3; simp [e4]
          · subst e0 e1 e2; simp [e3]
        · subst e0 e1; simp [e2]
      · subst e0; simp [e1]
    · simp [e0]
theorem guard_parts (W : World) (p q : Operand) (x y : Int) : (eqGuard .eql 31 p q (parts x) (parts y)).run Tryd.prog W = .ok () W := run_eqGuard_agg W .eql _ p q _ _ guard31
end Go.Proofs.YtdjbfnhgendacaaDoor

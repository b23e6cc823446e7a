/-
  A state told as the document's; its equality with itself there.
-/
import Derived.Test.YtandfpghjbbalaaDoorIsoH
import Derived.Test.YtandfpghjbbalaaDoorIsoF
namespace Go.Proofs.YtandfpghjbbalaaDoor
open Go Go.RowKit

set_option maxHeartbeats 2000000 in
theorem told_any (x : Iso) (w : World) : Calls Tryd.prog 34 #[x.val] w fun e w' => e = .returned x.val ∧ Below w.heap.size w w' := by
  obtain ⟨a, b, c, d, l, r, s⟩ := x
  unfold Iso.val Iso.cs
  go_enter Tryd.func34, Tryd.ntmps34
  go_wp2_with fail
  exact bodyPost_ret (v := .agg #[.int .i64 a, .int .i64 b, .int .i64 c, .int .i64 d, .int .i64 l, .int .i64 r, .int .i64 s]) (by simp [results, Tryd.results34, go_sem]) rfl ⟨rfl, ((Below.refl _ _).alloc (Nat.le_refl _) _).alloc (by simp) _⟩
theorem refStood : Tryd.prog.stoodInHeld 35 = false := by kernel_rfl
theorem refGuard : Tryd.prog.eqGuardType Tryd.prog.depth 35 = false := by kernel_rfl
theorem refFields : (Tryd.prog.fieldsOf 35).toList.map (fun f => (f.name != "_", f.type, f.offset)) = [(true, 33, 0), (true, 3, 4), (true, 3, 5), (true, 3, 6)] := by kernel_rfl
theorem refUnder : Tryd.prog.underlying 35 = some (.struct (Tryd.prog.fieldsOf 35)) := by kernel_rfl
set_option maxRecDepth 100000 in
theorem eq_ref (W : World) (m : Nat) (a b c d l r s : Int) : (Op.equalIn (m + 3) 35 (.agg #[.int .i64 a, .int .i64 b, .int .i64 c, .int .i64 d, .int .i64 l, .int .i64 r, .int .i64 s]) (.agg #[.int .i64 a, .int .i64 b, .int .i64 c, .int .i64 d, .int .i64 l, .int .i64 r, .int .i64 s])).run Tryd.prog W = .ok true W := by
  rw [run_equalIn_struct W (m + 2) 35 _ _ refUnder refStood]
  obtain ⟨fs, hfs⟩ : ∃ fs, (Tryd.prog.fieldsOf 35).toList = fs := ⟨_, rfl⟩
  have hf := refFields
  rw [hfs] at hf ⊢
  match fs, hf with
  | [f0, f1, f2, f3], hf =>
    simp only [List.map_cons, List.map_nil, List.cons.injEq, Prod.mk.injEq, bne_iff_ne, and_true] at hf
    obtain ⟨⟨n0, t0, o0⟩, ⟨n1, t1, o1⟩, ⟨n2, t2, o2⟩, ⟨n3, t3, o3⟩⟩ := hf
    have P := fun (i : Nat) v h => part_i W #[.int .i64 a, .int .i64 b, .int .i64 c, .int .i64 d, .int .i64 l, .int .i64 r, .int .i64 s] i v h
    have E : ∀ z : Int, (Op.equalIn (m + 2) 3 (.int .i64 z) (.int .i64 z)).run Tryd.prog W = .ok true W := fun z => by
      rw [run_equalIn_int W (m + 1) 3 .i64 .i64 z z Tryd.underlying3]; simp
    simp only [Op.eqFields, t0, t1, t2, t3, o0, o1, o2, o3, n0, n1, n2, n3, ne_eq, not_false_eq_true, if_true, Sem.run_bind, part_arr, P 4 (.int .i64 l) rfl, P 5 (.int .i64 r) rfl, P 6 (.int .i64 s) rfl, Result.andThen_ok, E, eq_arr, Sem.run_ite, Sem.run_pure]
    rfl
theorem neq_ref (W : World) (a b c d l r s : Int) : (binOp .neq 35 (.agg #[.int .i64 a, .int .i64 b, .int .i64 c, .int .i64 d, .int .i64 l, .int .i64 r, .int .i64 s]) (.agg #[.int .i64 a, .int .i64 b, .int .i64 c, .int .i64 d, .int .i64 l, .int .i64 r, .int .i64 s])).run Tryd.prog W = .ok (.bool false) W := by
  rw [run_neq_struct, show (10000 : Nat) = 9997 + 3 from rfl, eq_ref]
  rfl
theorem eql_ref (W : World) (a b c d l r s : Int) : (binOp .eql 35 (.agg #[.int .i64 a, .int .i64 b, .int .i64 c, .int .i64 d, .int .i64 l, .int .i64 r, .int .i64 s]) (.agg #[.int .i64 a, .int .i64 b, .int .i64 c, .int .i64 d, .int .i64 l, .int .i64 r, .int .i64 s])).run Tryd.prog W = .ok (.bool true) W := by
  rw [run_eql_struct, show (10000 : Nat) = 9997 + 3 from rfl, eq_ref]
  rfl
theorem guard_ref (W : World) (op : BinOp) (p q : Operand) (xs ys : Array Value) : (eqGuard op 35 p q (.agg xs) (.agg ys)).run Tryd.prog W = .ok () W := run_eqGuard_agg W op _ p q _ _ refGuard
end Go.Proofs.YtandfpghjbbalaaDoor

/-
  States of sets: a state is like itself, and so are its sets.
-/
import Derived.Test.YtandfpghjbbalaaDoorIsoE
import Derived.Laws.StructEq
import Derived.ChangeKeysEq
namespace Go.Proofs.YtandfpghjbbalaaDoor
open Go Go.RowKit

theorem isoStood : Tryd.prog.stoodInHeld 37 = false := by kernel_rfl
theorem isoGuard : Tryd.prog.eqGuardType Tryd.prog.depth 37 = false := by kernel_rfl
theorem arrGuard : Tryd.prog.eqGuardType Tryd.prog.depth 33 = false := by kernel_rfl
theorem isoFields : (Tryd.prog.fieldsOf 37).toList.map (fun f => (f.name != "_", f.type, f.offset)) = [(true, 33, 0), (true, 3, 4), (true, 3, 5), (true, 3, 6)] := by kernel_rfl
theorem isoUnder : Tryd.prog.underlying 37 = some (.struct (Tryd.prog.fieldsOf 37)) := by kernel_rfl
theorem arrUnder : Tryd.prog.underlying 33 = some (.array 4 3) := by kernel_rfl
theorem cellsInt1 : Tryd.prog.cellsOf 3 = 1 := by kernel_rfl
theorem infoInt : ∃ i, Tryd.prog.info? 3 = some i := by
  have h : (Tryd.prog.info? 3).isSome = true := by kernel_rfl
  exact Option.isSome_iff_exists.1 h
theorem part_i (W : World) (xs : Array Value) (i : Nat) (v : Value) (h : xs[i]? = some v) : (part 3 xs i).run Tryd.prog W = .ok v W := by
  simp [part, h]
theorem eq_arr (W : World) (m : Nat) (a b c d : Int) : (Op.equalIn (m + 2) 33 (.agg #[.int .i64 a, .int .i64 b, .int .i64 c, .int .i64 d]) (.agg #[.int .i64 a, .int .i64 b, .int .i64 c, .int .i64 d])).run Tryd.prog W = .ok true W := by
  obtain ⟨i, hi⟩ := infoInt
  rw [run_equalIn_array W (m + 1) _ _ arrUnder hi, cellsInt1]
  have E : ∀ z : Int, (Op.equalIn (m + 1) 3 (.int .i64 z) (.int .i64 z)).run Tryd.prog W = .ok true W := fun z => by
    rw [run_equalIn_int W m 3 .i64 .i64 z z Tryd.underlying3]; simp
  have P := fun (i : Nat) v h => part_i W #[.int .i64 a, .int .i64 b, .int .i64 c, .int .i64 d] i v h
  show (Op.eqItems (m + 1) 3 1 _ _ [0, 1, 2, 3]).run _ W = _
  simp only [Op.eqItems, Sem.run_bind, Nat.mul_one, P 0 (.int .i64 a) rfl, P 1 (.int .i64 b) rfl, P 2 (.int .i64 c) rfl, P 3 (.int .i64 d) rfl, Result.andThen_ok, E, Sem.run_ite, Sem.run_pure]
  rfl
theorem part_arr (W : World) (a b c d l r s : Int) : (part 33 #[.int .i64 a, .int .i64 b, .int .i64 c, .int .i64 d, .int .i64 l, .int .i64 r, .int .i64 s] 0).run Tryd.prog W = .ok (.agg #[.int .i64 a, .int .i64 b, .int .i64 c, .int .i64 d]) W := by
  kernel_rfl
set_option maxRecDepth 100000 in
theorem eq_iso (W : World) (m : Nat) (a b c d l r s : Int) : (Op.equalIn (m + 3) 37 (.agg #[.int .i64 a, .int .i64 b, .int .i64 c, .int .i64 d, .int .i64 l, .int .i64 r, .int .i64 s]) (.agg #[.int .i64 a, .int .i64 b, .int .i64 c, .int .i64 d, .int .i64 l, .int .i64 r, .int .i64 s])).run Tryd.prog W = .ok true W := by
  rw [run_equalIn_struct W (m + 2) 37 _ _ isoUnder isoStood]
  obtain ⟨fs, hfs⟩ : ∃ fs, (Tryd.prog.fieldsOf 37).toList = fs := ⟨_, rfl⟩
  have hf := isoFields
  rw [hfs] at hf ⊢
  match fs, hf with
  | [f0, f1, f2, f3], hf =>
    simp only [List.map_cons, List.map_nil, List.cons.injEq, Prod.mk.injEq, bne_iff_ne, and_true] at hf
    obtain ⟨⟨n0, t0, o0⟩, ⟨n1, t1, o1⟩, ⟨n2, t2, o2⟩, ⟨n3, t3, o3⟩⟩ := hf
    have P := fun (i : Nat) v h => part_i W #[.int .i64 a, .int .i64 b, .int .i64 c, .int .i64 d, .int .i64 l, .int .i64 r, .int .i64 s] i v h
    have E : ∀ z : Int, (Op.equalIn (m + 2) 3 (.int .i64 z) (.int .i64 z)).run Tryd.prog W = .ok true W := fun z => by
      rw [run_equalIn_int W (m + 1) 3 .i64 .i64 z z Tryd.underlying3]; simp
    simp only [Op.eqFields, t0, t1, t2, t3, o0, o1, o2, o3, n0, n1, n2, n3, ne_eq, not_false_eq_true, if_true, Sem.run_bind, part_arr, P 4 (.int .i64 l) rfl, P 5 (.int .i64 r) rfl, P 6 (.int .i64 s) rfl, Result.andThen_ok, E, eq_arr, Sem.run_ite, Sem.run_pure]
    rfl
theorem neq_iso (W : World) (a b c d l r s : Int) : (binOp .neq 37 (.agg #[.int .i64 a, .int .i64 b, .int .i64 c, .int .i64 d, .int .i64 l, .int .i64 r, .int .i64 s]) (.agg #[.int .i64 a, .int .i64 b, .int .i64 c, .int .i64 d, .int .i64 l, .int .i64 r, .int .i64 s])).run Tryd.prog W = .ok (.bool false) W := by
  rw [run_neq_struct, show (10000 : Nat) = 9997 + 3 from rfl, eq_iso]
  rfl
theorem eql_iso (W : World) (a b c d l r s : Int) : (binOp .eql 37 (.agg #[.int .i64 a, .int .i64 b, .int .i64 c, .int .i64 d, .int .i64 l, .int .i64 r, .int .i64 s]) (.agg #[.int .i64 a, .int .i64 b, .int .i64 c, .int .i64 d, .int .i64 l, .int .i64 r, .int .i64 s])).run Tryd.prog W = .ok (.bool true) W := by
  rw [run_eql_struct, show (10000 : Nat) = 9997 + 3 from rfl, eq_iso]
  rfl
theorem neq_arr (W : World) (a b c d : Int) : (binOp .neq 33 (.agg #[.int .i64 a, .int .i64 b, .int .i64 c, .int .i64 d]) (.agg #[.int .i64 a, .int .i64 b, .int .i64 c, .int .i64 d])).run Tryd.prog W = .ok (.bool false) W := by
  rw [run_neq_struct, show (10000 : Nat) = 9998 + 2 from rfl, eq_arr]
  rfl
theorem eql_arr (W : World) (a b c d : Int) : (binOp .eql 33 (.agg #[.int .i64 a, .int .i64 b, .int .i64 c, .int .i64 d]) (.agg #[.int .i64 a, .int .i64 b, .int .i64 c, .int .i64 d])).run Tryd.prog W = .ok (.bool true) W := by
  rw [run_eql_struct, show (10000 : Nat) = 9998 + 2 from rfl, eq_arr]
  rfl
theorem guard_iso (W : World) (op : BinOp) (p q : Operand) (xs ys : Array Value) : (eqGuard op 37 p q (.agg xs) (.agg ys)).run Tryd.prog W = .ok () W := run_eqGuard_agg W op _ p q _ _ isoGuard
theorem guard_arr (W : World) (op : BinOp) (p q : Operand) (xs ys : Array Value) : (eqGuard op 33 p q (.agg xs) (.agg ys)).run Tryd.prog W = .ok () W := run_eqGuard_agg W op _ p q _ _ arrGuard
end Go.Proofs.YtandfpghjbbalaaDoor

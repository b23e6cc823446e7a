/-
  Cursors and boxes equal themselves.
-/
import Derived.Test.YtfnamfkjbkhgeaaGreatDoorCurF
import Derived.Laws.StructEq
import Derived.ChangeKeysEq
namespace Go.Proofs.YtfnamfkjbkhgeaaGreatDoor

open Go Go.RowKit

theorem curInfoInt : ∃ i, Tryz.prog.info? 3 = some i := by
  have h : (Tryz.prog.info? 3).isSome = true := by kernel_rfl
  exact Option.isSome_iff_exists.1 h
theorem curArrUnder : Tryz.prog.underlying 23 = some (.array 4 3) := by kernel_rfl
theorem curCells1 : Tryz.prog.cellsOf 3 = 1 := by kernel_rfl
theorem cur_part (W : World) (xs : Array Value) (i : Nat) (v : Value) (h : xs[i]? = some v) : (part 3 xs i).run Tryz.prog W = .ok v W := by
  simp [part, h]
theorem eqC_arr (W : World) (m : Nat) (a b c d : Int) : (Op.equalIn (m + 2) 23 (.agg #[.int .i64 a, .int .i64 b, .int .i64 c, .int .i64 d]) (.agg #[.int .i64 a, .int .i64 b, .int .i64 c, .int .i64 d])).run Tryz.prog W = .ok true W := by
  obtain ⟨i, hi⟩ := curInfoInt
  rw [run_equalIn_array W (m + 1) _ _ curArrUnder hi, curCells1]
  have E : ∀ z : Int, (Op.equalIn (m + 1) 3 (.int .i64 z) (.int .i64 z)).run Tryz.prog W = .ok true W := fun z => by
    rw [run_equalIn_int W m 3 .i64 .i64 z z Tryz.underlying3]; simp
  have P := fun (i : Nat) v h => cur_part W #[.int .i64 a, .int .i64 b, .int .i64 c, .int .i64 d] i v h
  show (Op.eqItems (m + 1) 3 1 _ _ [0, 1, 2, 3]).run _ W = _
  simp only [Op.eqItems, Sem.run_bind, Nat.mul_one, P 0 (.int .i64 a) rfl, P 1 (.int .i64 b) rfl, P 2 (.int .i64 c) rfl, P 3 (.int .i64 d) rfl, Result.andThen_ok, E, Sem.run_ite, Sem.run_pure]
  rfl
theorem boxUStood : Tryz.prog.stoodInHeld 29 = false := by kernel_rfl
theorem boxUGuard : Tryz.prog.eqGuardType Tryz.prog.depth 29 = false := by kernel_rfl
theorem boxUFields : (Tryz.prog.fieldsOf 29).toList.map (fun f => (f.name != "_", f.type, f.offset)) = [(true, 3, 0), (true, 3, 1), (true, 3, 2), (true, 3, 3)] := by kernel_rfl
theorem boxUUnder : Tryz.prog.underlying 29 = some (.struct (Tryz.prog.fieldsOf 29)) := by kernel_rfl
set_option maxRecDepth 100000 in
theorem eq_boxU (W : World) (m : Nat) (t l b r : Int) : (Op.equalIn (m + 2) 29 (.agg #[.int .i64 t, .int .i64 l, .int .i64 b, .int .i64 r]) (.agg #[.int .i64 t, .int .i64 l, .int .i64 b, .int .i64 r])).run Tryz.prog W = .ok true W := by
  rw [run_equalIn_struct W (m + 1) 29 _ _ boxUUnder boxUStood]
  obtain ⟨fs, hfs⟩ : ∃ fs, (Tryz.prog.fieldsOf 29).toList = fs := ⟨_, rfl⟩
  have hf := boxUFields
  rw [hfs] at hf ⊢
  match fs, hf with
  | [f0, f1, f2, f3], hf =>
    simp only [List.map_cons, List.map_nil, List.cons.injEq, Prod.mk.injEq, bne_iff_ne, and_true] at hf
    obtain ⟨⟨n0, t0, o0⟩, ⟨n1, t1, o1⟩, ⟨n2, t2, o2⟩, ⟨n3, t3, o3⟩⟩ := hf
    have P0 : (part 3 #[.int .i64 t, .int .i64 l, .int .i64 b, .int .i64 r] 0).run Tryz.prog W = .ok (.int .i64 t) W := by kernel_rfl
    have P1 : (part 3 #[.int .i64 t, .int .i64 l, .int .i64 b, .int .i64 r] 1).run Tryz.prog W = .ok (.int .i64 l) W := by kernel_rfl
    have P2 : (part 3 #[.int .i64 t, .int .i64 l, .int .i64 b, .int .i64 r] 2).run Tryz.prog W = .ok (.int .i64 b) W := by kernel_rfl
    have P3 : (part 3 #[.int .i64 t, .int .i64 l, .int .i64 b, .int .i64 r] 3).run Tryz.prog W = .ok (.int .i64 r) W := by kernel_rfl
    have E0 : (Op.equalIn (m + 1) 3 (.int .i64 t) (.int .i64 t)).run Tryz.prog W = .ok true W := by rw [run_equalIn_int W (m + 0) 3 .i64 .i64 (t) (t) Tryz.underlying3]; simp
    have E1 : (Op.equalIn (m + 1) 3 (.int .i64 l) (.int .i64 l)).run Tryz.prog W = .ok true W := by rw [run_equalIn_int W (m + 0) 3 .i64 .i64 (l) (l) Tryz.underlying3]; simp
    have E2 : (Op.equalIn (m + 1) 3 (.int .i64 b) (.int .i64 b)).run Tryz.prog W = .ok true W := by rw [run_equalIn_int W (m + 0) 3 .i64 .i64 (b) (b) Tryz.underlying3]; simp
    have E3 : (Op.equalIn (m + 1) 3 (.int .i64 r) (.int .i64 r)).run Tryz.prog W = .ok true W := by rw [run_equalIn_int W (m + 0) 3 .i64 .i64 (r) (r) Tryz.underlying3]; simp
    simp only [Op.eqFields, t0, o0, n0, t1, o1, n1, t2, o2, n2, t3, o3, n3, ne_eq, not_false_eq_true, if_true, Sem.run_bind, P0, E0, P1, E1, P2, E2, P3, E3, Result.andThen_ok, Sem.run_ite, Sem.run_pure]
    rfl
theorem eql_boxU (W : World) (t l b r : Int) : (binOp .eql 29 (.agg #[.int .i64 t, .int .i64 l, .int .i64 b, .int .i64 r]) (.agg #[.int .i64 t, .int .i64 l, .int .i64 b, .int .i64 r])).run Tryz.prog W = .ok (.bool true) W := by
  rw [run_eql_struct, show (10000 : Nat) = 9998 + 2 from rfl, eq_boxU]
  rfl
theorem neq_boxU (W : World) (t l b r : Int) : (binOp .neq 29 (.agg #[.int .i64 t, .int .i64 l, .int .i64 b, .int .i64 r]) (.agg #[.int .i64 t, .int .i64 l, .int .i64 b, .int .i64 r])).run Tryz.prog W = .ok (.bool false) W := by
  rw [run_neq_struct, show (10000 : Nat) = 9998 + 2 from rfl, eq_boxU]
  rfl
theorem guard_boxU (W : World) (op : BinOp) (p q : Operand) (xs ys : Array Value) : (eqGuard op 29 p q (.agg xs) (.agg ys)).run Tryz.prog W = .ok () W := run_eqGuard_agg W op _ p q _ _ boxUGuard
theorem posUStood : Tryz.prog.stoodInHeld 37 = false := by kernel_rfl
theorem posUGuard : Tryz.prog.eqGuardType Tryz.prog.depth 37 = false := by kernel_rfl
theorem posUFields : (Tryz.prog.fieldsOf 37).toList.map (fun f => (f.name != "_", f.type, f.offset)) = [(true, 3, 0), (true, 3, 1)] := by kernel_rfl
theorem posUUnder : Tryz.prog.underlying 37 = some (.struct (Tryz.prog.fieldsOf 37)) := by kernel_rfl
set_option maxRecDepth 100000 in
theorem eq_posU (W : World) (m : Nat) (p q : Int) : (Op.equalIn (m + 2) 37 (.agg #[.int .i64 p, .int .i64 q]) (.agg #[.int .i64 p, .int .i64 q])).run Tryz.prog W = .ok true W := by
  rw [run_equalIn_struct W (m + 1) 37 _ _ posUUnder posUStood]
  obtain ⟨fs, hfs⟩ : ∃ fs, (Tryz.prog.fieldsOf 37).toList = fs := ⟨_, rfl⟩
  have hf := posUFields
  rw [hfs] at hf ⊢
  match fs, hf with
  | [f0, f1], hf =>
    simp only [List.map_cons, List.map_nil, List.cons.injEq, Prod.mk.injEq, bne_iff_ne, and_true] at hf
    obtain ⟨⟨n0, t0, o0⟩, ⟨n1, t1, o1⟩⟩ := hf
    have P0 : (part 3 #[.int .i64 p, .int .i64 q] 0).run Tryz.prog W = .ok (.int .i64 p) W := by kernel_rfl
    have P1 : (part 3 #[.int .i64 p, .int .i64 q] 1).run Tryz.prog W = .ok (.int .i64 q) W := by kernel_rfl
    have E0 : (Op.equalIn (m + 1) 3 (.int .i64 p) (.int .i64 p)).run Tryz.prog W = .ok true W := by rw [run_equalIn_int W (m + 0) 3 .i64 .i64 (p) (p) Tryz.underlying3]; simp
    have E1 : (Op.equalIn (m + 1) 3 (.int .i64 q) (.int .i64 q)).run Tryz.prog W = .ok true W := by rw [run_equalIn_int W (m + 0) 3 .i64 .i64 (q) (q) Tryz.underlying3]; simp
    simp only [Op.eqFields, t0, o0, n0, t1, o1, n1, ne_eq, not_false_eq_true, if_true, Sem.run_bind, P0, E0, P1, E1, Result.andThen_ok, Sem.run_ite, Sem.run_pure]
    rfl
theorem eql_posU (W : World) (p q : Int) : (binOp .eql 37 (.agg #[.int .i64 p, .int .i64 q]) (.agg #[.int .i64 p, .int .i64 q])).run Tryz.prog W = .ok (.bool true) W := by
  rw [run_eql_struct, show (10000 : Nat) = 9998 + 2 from rfl, eq_posU]
  rfl
theorem neq_posU (W : World) (p q : Int) : (binOp .neq 37 (.agg #[.int .i64 p, .int .i64 q]) (.agg #[.int .i64 p, .int .i64 q])).run Tryz.prog W = .ok (.bool false) W := by
  rw [run_neq_struct, show (10000 : Nat) = 9998 + 2 from rfl, eq_posU]
  rfl
theorem guard_posU (W : World) (op : BinOp) (p q : Operand) (xs ys : Array Value) : (eqGuard op 37 p q (.agg xs) (.agg ys)).run Tryz.prog W = .ok () W := run_eqGuard_agg W op _ p q _ _ posUGuard
theorem stRStood : Tryz.prog.stoodInHeld 25 = false := by kernel_rfl
theorem stRGuard : Tryz.prog.eqGuardType Tryz.prog.depth 25 = false := by kernel_rfl
theorem stRFields : (Tryz.prog.fieldsOf 25).toList.map (fun f => (f.name != "_", f.type, f.offset)) = [(true, 23, 0), (true, 3, 4), (true, 3, 5), (true, 3, 6)] := by kernel_rfl
theorem stRUnder : Tryz.prog.underlying 25 = some (.struct (Tryz.prog.fieldsOf 25)) := by kernel_rfl
set_option maxRecDepth 100000 in
theorem eq_stR (W : World) (m : Nat) (a b c d l r s : Int) : (Op.equalIn (m + 3) 25 (.agg #[.int .i64 a, .int .i64 b, .int .i64 c, .int .i64 d, .int .i64 l, .int .i64 r, .int .i64 s]) (.agg #[.int .i64 a, .int .i64 b, .int .i64 c, .int .i64 d, .int .i64 l, .int .i64 r, .int .i64 s])).run Tryz.prog W = .ok true W := by
  rw [run_equalIn_struct W (m + 2) 25 _ _ stRUnder stRStood]
  obtain ⟨fs, hfs⟩ : ∃ fs, (Tryz.prog.fieldsOf 25).toList = fs := ⟨_, rfl⟩
  have hf := stRFields
  rw [hfs] at hf ⊢
  match fs, hf with
  | [f0, f1, f2, f3], hf =>
    simp only [List.map_cons, List.map_nil, List.cons.injEq, Prod.mk.injEq, bne_iff_ne, and_true] at hf
    obtain ⟨⟨n0, t0, o0⟩, ⟨n1, t1, o1⟩, ⟨n2, t2, o2⟩, ⟨n3, t3, o3⟩⟩ := hf
    have P0 : (part 23 #[.int .i64 a, .int .i64 b, .int .i64 c, .int .i64 d, .int .i64 l, .int .i64 r, .int .i64 s] 0).run Tryz.prog W = .ok (.agg #[.int .i64 a, .int .i64 b, .int .i64 c, .int .i64 d]) W := by kernel_rfl
    have P1 : (part 3 #[.int .i64 a, .int .i64 b, .int .i64 c, .int .i64 d, .int .i64 l, .int .i64 r, .int .i64 s] 4).run Tryz.prog W = .ok (.int .i64 l) W := by kernel_rfl
    have P2 : (part 3 #[.int .i64 a, .int .i64 b, .int .i64 c, .int .i64 d, .int .i64 l, .int .i64 r, .int .i64 s] 5).run Tryz.prog W = .ok (.int .i64 r) W := by kernel_rfl
    have P3 : (part 3 #[.int .i64 a, .int .i64 b, .int .i64 c, .int .i64 d, .int .i64 l, .int .i64 r, .int .i64 s] 6).run Tryz.prog W = .ok (.int .i64 s) W := by kernel_rfl
    have E0 : (Op.equalIn (m + 2) 23 (.agg #[.int .i64 a, .int .i64 b, .int .i64 c, .int .i64 d]) (.agg #[.int .i64 a, .int .i64 b, .int .i64 c, .int .i64 d])).run Tryz.prog W = .ok true W := eqC_arr W m a b c d
    have E1 : (Op.equalIn (m + 2) 3 (.int .i64 l) (.int .i64 l)).run Tryz.prog W = .ok true W := by rw [run_equalIn_int W (m + 1) 3 .i64 .i64 (l) (l) Tryz.underlying3]; simp
    have E2 : (Op.equalIn (m + 2) 3 (.int .i64 r) (.int .i64 r)).run Tryz.prog W = .ok true W := by rw [run_equalIn_int W (m + 1) 3 .i64 .i64 (r) (r) Tryz.underlying3]; simp
    have E3 : (Op.equalIn (m + 2) 3 (.int .i64 s) (.int .i64 s)).run Tryz.prog W = .ok true W := by rw [run_equalIn_int W (m + 1) 3 .i64 .i64 (s) (s) Tryz.underlying3]; simp
    simp only [Op.eqFields, t0, o0, n0, t1, o1, n1, t2, o2, n2, t3, o3, n3, ne_eq, not_false_eq_true, if_true, Sem.run_bind, P0, E0, P1, E1, P2, E2, P3, E3, Result.andThen_ok, Sem.run_ite, Sem.run_pure]
    rfl
theorem eql_stR (W : World) (a b c d l r s : Int) : (binOp .eql 25 (.agg #[.int .i64 a, .int .i64 b, .int .i64 c, .int .i64 d, .int .i64 l, .int .i64 r, .int .i64 s]) (.agg #[.int .i64 a, .int .i64 b, .int .i64 c, .int .i64 d, .int .i64 l, .int .i64 r, .int .i64 s])).run Tryz.prog W = .ok (.bool true) W := by
  rw [run_eql_struct, show (10000 : Nat) = 9997 + 3 from rfl, eq_stR]
  rfl
theorem neq_stR (W : World) (a b c d l r s : Int) : (binOp .neq 25 (.agg #[.int .i64 a, .int .i64 b, .int .i64 c, .int .i64 d, .int .i64 l, .int .i64 r, .int .i64 s]) (.agg #[.int .i64 a, .int .i64 b, .int .i64 c, .int .i64 d, .int .i64 l, .int .i64 r, .int .i64 s])).run Tryz.prog W = .ok (.bool false) W := by
  rw [run_neq_struct, show (10000 : Nat) = 9997 + 3 from rfl, eq_stR]
  rfl
theorem guard_stR (W : World) (op : BinOp) (p q : Operand) (xs ys : Array Value) : (eqGuard op 25 p q (.agg xs) (.agg ys)).run Tryz.prog W = .ok () W := run_eqGuard_agg W op _ p q _ _ stRGuard
theorem stIStood : Tryz.prog.stoodInHeld 38 = false := by kernel_rfl
theorem stIGuard : Tryz.prog.eqGuardType Tryz.prog.depth 38 = false := by kernel_rfl
theorem stIFields : (Tryz.prog.fieldsOf 38).toList.map (fun f => (f.name != "_", f.type, f.offset)) = [(true, 23, 0), (true, 3, 4), (true, 3, 5), (true, 3, 6)] := by kernel_rfl
theorem stIUnder : Tryz.prog.underlying 38 = some (.struct (Tryz.prog.fieldsOf 38)) := by kernel_rfl
set_option maxRecDepth 100000 in
theorem eq_stI (W : World) (m : Nat) (a b c d l r s : Int) : (Op.equalIn (m + 3) 38 (.agg #[.int .i64 a, .int .i64 b, .int .i64 c, .int .i64 d, .int .i64 l, .int .i64 r, .int .i64 s]) (.agg #[.int .i64 a, .int .i64 b, .int .i64 c, .int .i64 d, .int .i64 l, .int .i64 r, .int .i64 s])).run Tryz.prog W = .ok true W := by
  rw [run_equalIn_struct W (m + 2) 38 _ _ stIUnder stIStood]
  obtain ⟨fs, hfs⟩ : ∃ fs, (Tryz.prog.fieldsOf 38).toList = fs := ⟨_, rfl⟩
  have hf := stIFields
  rw [hfs] at hf ⊢
  match fs, hf with
  | [f0, f1, f2, f3], hf =>
    simp only [List.map_cons, List.map_nil, List.cons.injEq, Prod.mk.injEq, bne_iff_ne, and_true] at hf
    obtain ⟨⟨n0, t0, o0⟩, ⟨n1, t1, o1⟩, ⟨n2, t2, o2⟩, ⟨n3, t3, o3⟩⟩ := hf
    have P0 : (part 23 #[.int .i64 a, .int .i64 b, .int .i64 c, .int .i64 d, .int .i64 l, .int .i64 r, .int .i64 s] 0).run Tryz.prog W = .ok (.agg #[.int .i64 a, .int .i64 b, .int .i64 c, .int .i64 d]) W := by kernel_rfl
    have P1 : (part 3 #[.int .i64 a, .int .i64 b, .int .i64 c, .int .i64 d, .int .i64 l, .int .i64 r, .int .i64 s] 4).run Tryz.prog W = .ok (.int .i64 l) W := by kernel_rfl
    have P2 : (part 3 #[.int .i64 a, .int .i64 b, .int .i64 c, .int .i64 d, .int .i64 l, .int .i64 r, .int .i64 s] 5).run Tryz.prog W = .ok (.int .i64 r) W := by kernel_rfl
    have P3 : (part 3 #[.int .i64 a, .int .i64 b, .int .i64 c, .int .i64 d, .int .i64 l, .int .i64 r, .int .i64 s] 6).run Tryz.prog W = .ok (.int .i64 s) W := by kernel_rfl
    have E0 : (Op.equalIn (m + 2) 23 (.agg #[.int .i64 a, .int .i64 b, .int .i64 c, .int .i64 d]) (.agg #[.int .i64 a, .int .i64 b, .int .i64 c, .int .i64 d])).run Tryz.prog W = .ok true W := eqC_arr W m a b c d
    have E1 : (Op.equalIn (m + 2) 3 (.int .i64 l) (.int .i64 l)).run Tryz.prog W = .ok true W := by rw [run_equalIn_int W (m + 1) 3 .i64 .i64 (l) (l) Tryz.underlying3]; simp
    have E2 : (Op.equalIn (m + 2) 3 (.int .i64 r) (.int .i64 r)).run Tryz.prog W = .ok true W := by rw [run_equalIn_int W (m + 1) 3 .i64 .i64 (r) (r) Tryz.underlying3]; simp
    have E3 : (Op.equalIn (m + 2) 3 (.int .i64 s) (.int .i64 s)).run Tryz.prog W = .ok true W := by rw [run_equalIn_int W (m + 1) 3 .i64 .i64 (s) (s) Tryz.underlying3]; simp
    simp only [Op.eqFields, t0, o0, n0, t1, o1, n1, t2, o2, n2, t3, o3, n3, ne_eq, not_false_eq_true, if_true, Sem.run_bind, P0, E0, P1, E1, P2, E2, P3, E3, Result.andThen_ok, Sem.run_ite, Sem.run_pure]
    rfl
theorem eql_stI (W : World) (a b c d l r s : Int) : (binOp .eql 38 (.agg #[.int .i64 a, .int .i64 b, .int .i64 c, .int .i64 d, .int .i64 l, .int .i64 r, .int .i64 s]) (.agg #[.int .i64 a, .int .i64 b, .int .i64 c, .int .i64 d, .int .i64 l, .int .i64 r, .int .i64 s])).run Tryz.prog W = .ok (.bool true) W := by
  rw [run_eql_struct, show (10000 : Nat) = 9997 + 3 from rfl, eq_stI]
  rfl
theorem neq_stI (W : World) (a b c d l r s : Int) : (binOp .neq 38 (.agg #[.int .i64 a, .int .i64 b, .int .i64 c, .int .i64 d, .int .i64 l, .int .i64 r, .int .i64 s]) (.agg #[.int .i64 a, .int .i64 b, .int .i64 c, .int .i64 d, .int .i64 l, .int .i64 r, .int .i64 s])).run Tryz.prog W = .ok (.bool false) W := by
  rw [run_neq_struct, show (10000 : Nat) = 9997 + 3 from rfl, eq_stI]
  rfl
theorem guard_stI (W : World) (op : BinOp) (p q : Operand) (xs ys : Array Value) : (eqGuard op 38 p q (.agg xs) (.agg ys)).run Tryz.prog W = .ok () W := run_eqGuard_agg W op _ p q _ _ stIGuard
theorem curRStood : Tryz.prog.stoodInHeld 27 = false := by kernel_rfl
theorem curRGuard : Tryz.prog.eqGuardType Tryz.prog.depth 27 = false := by kernel_rfl
theorem curRFields : (Tryz.prog.fieldsOf 27).toList.map (fun f => (f.name != "_", f.type, f.offset)) = [(true, 3, 0), (true, 3, 1), (true, 22, 2), (true, 4, 3), (true, 4, 4), (true, 4, 5), (true, 25, 6)] := by kernel_rfl
theorem curRUnder : Tryz.prog.underlying 27 = some (.struct (Tryz.prog.fieldsOf 27)) := by kernel_rfl
set_option maxRecDepth 100000 in
theorem eq_curR (W : World) (m : Nat) (z y rd : Int) (kp wp og : Bool) (a b c d l r s : Int) : (Op.equalIn (m + 4) 27 (.agg #[.int .i64 z, .int .i64 y, .int .u8 rd, .bool kp, .bool wp, .bool og, .int .i64 a, .int .i64 b, .int .i64 c, .int .i64 d, .int .i64 l, .int .i64 r, .int .i64 s]) (.agg #[.int .i64 z, .int .i64 y, .int .u8 rd, .bool kp, .bool wp, .bool og, .int .i64 a, .int .i64 b, .int .i64 c, .int .i64 d, .int .i64 l, .int .i64 r, .int .i64 s])).run Tryz.prog W = .ok true W := by
  rw [run_equalIn_struct W (m + 3) 27 _ _ curRUnder curRStood]
  obtain ⟨fs, hfs⟩ : ∃ fs, (Tryz.prog.fieldsOf 27).toList = fs := ⟨_, rfl⟩
  have hf := curRFields
  rw [hfs] at hf ⊢
  match fs, hf with
  | [f0, f1, f2, f3, f4, f5, f6], hf =>
    simp only [List.map_cons, List.map_nil, List.cons.injEq, Prod.mk.injEq, bne_iff_ne, and_true] at hf
    obtain ⟨⟨n0, t0, o0⟩, ⟨n1, t1, o1⟩, ⟨n2, t2, o2⟩, ⟨n3, t3, o3⟩, ⟨n4, t4, o4⟩, ⟨n5, t5, o5⟩, ⟨n6, t6, o6⟩⟩ := hf
    have P0 : (part 3 #[.int .i64 z, .int .i64 y, .int .u8 rd, .bool kp, .bool wp, .bool og, .int .i64 a, .int .i64 b, .int .i64 c, .int .i64 d, .int .i64 l, .int .i64 r, .int .i64 s] 0).run Tryz.prog W = .ok (.int .i64 z) W := by kernel_rfl
    have P1 : (part 3 #[.int .i64 z, .int .i64 y, .int .u8 rd, .bool kp, .bool wp, .bool og, .int .i64 a, .int .i64 b, .int .i64 c, .int .i64 d, .int .i64 l, .int .i64 r, .int .i64 s] 1).run Tryz.prog W = .ok (.int .i64 y) W := by kernel_rfl
    have P2 : (part 22 #[.int .i64 z, .int .i64 y, .int .u8 rd, .bool kp, .bool wp, .bool og, .int .i64 a, .int .i64 b, .int .i64 c, .int .i64 d, .int .i64 l, .int .i64 r, .int .i64 s] 2).run Tryz.prog W = .ok (.int .u8 rd) W := by kernel_rfl
    have P3 : (part 4 #[.int .i64 z, .int .i64 y, .int .u8 rd, .bool kp, .bool wp, .bool og, .int .i64 a, .int .i64 b, .int .i64 c, .int .i64 d, .int .i64 l, .int .i64 r, .int .i64 s] 3).run Tryz.prog W = .ok (.bool kp) W := by kernel_rfl
    have P4 : (part 4 #[.int .i64 z, .int .i64 y, .int .u8 rd, .bool kp, .bool wp, .bool og, .int .i64 a, .int .i64 b, .int .i64 c, .int .i64 d, .int .i64 l, .int .i64 r, .int .i64 s] 4).run Tryz.prog W = .ok (.bool wp) W := by kernel_rfl
    have P5 : (part 4 #[.int .i64 z, .int .i64 y, .int .u8 rd, .bool kp, .bool wp, .bool og, .int .i64 a, .int .i64 b, .int .i64 c, .int .i64 d, .int .i64 l, .int .i64 r, .int .i64 s] 5).run Tryz.prog W = .ok (.bool og) W := by kernel_rfl
    have P6 : (part 25 #[.int .i64 z, .int .i64 y, .int .u8 rd, .bool kp, .bool wp, .bool og, .int .i64 a, .int .i64 b, .int .i64 c, .int .i64 d, .int .i64 l, .int .i64 r, .int .i64 s] 6).run Tryz.prog W = .ok (.agg #[.int .i64 a, .int .i64 b, .int .i64 c, .int .i64 d, .int .i64 l, .int .i64 r, .int .i64 s]) W := by kernel_rfl
    have E0 : (Op.equalIn (m + 3) 3 (.int .i64 z) (.int .i64 z)).run Tryz.prog W = .ok true W := by rw [run_equalIn_int W (m + 2) 3 .i64 .i64 (z) (z) Tryz.underlying3]; simp
    have E1 : (Op.equalIn (m + 3) 3 (.int .i64 y) (.int .i64 y)).run Tryz.prog W = .ok true W := by rw [run_equalIn_int W (m + 2) 3 .i64 .i64 (y) (y) Tryz.underlying3]; simp
    have E2 : (Op.equalIn (m + 3) 22 (.int .u8 rd) (.int .u8 rd)).run Tryz.prog W = .ok true W := by rw [run_equalIn_int W (m + 2) 22 .u8 .u8 (rd) (rd) Tryz.underlying22]; simp
    have E3 : (Op.equalIn (m + 3) 4 (.bool kp) (.bool kp)).run Tryz.prog W = .ok true W := by rw [run_equalIn_bool W (m + 2) 4 (kp) (kp) Tryz.underlying4]; simp
    have E4 : (Op.equalIn (m + 3) 4 (.bool wp) (.bool wp)).run Tryz.prog W = .ok true W := by rw [run_equalIn_bool W (m + 2) 4 (wp) (wp) Tryz.underlying4]; simp
    have E5 : (Op.equalIn (m + 3) 4 (.bool og) (.bool og)).run Tryz.prog W = .ok true W := by rw [run_equalIn_bool W (m + 2) 4 (og) (og) Tryz.underlying4]; simp
    have E6 : (Op.equalIn (m + 3) 25 (.agg #[.int .i64 a, .int .i64 b, .int .i64 c, .int .i64 d, .int .i64 l, .int .i64 r, .int .i64 s]) (.agg #[.int .i64 a, .int .i64 b, .int .i64 c, .int .i64 d, .int .i64 l, .int .i64 r, .int .i64 s])).run Tryz.prog W = .ok true W := eq_stR W m a b c d l r s
    simp only [Op.eqFields, t0, o0, n0, t1, o1, n1, t2, o2, n2, t3, o3, n3, t4, o4, n4, t5, o5, n5, t6, o6, n6, ne_eq, not_false_eq_true, if_true, Sem.run_bind, P0, E0, P1, E1, P2, E2, P3, E3, P4, E4, P5, E5, P6, E6, Result.andThen_ok, Sem.run_ite, Sem.run_pure]
    rfl
theorem eql_curR (W : World) (z y rd : Int) (kp wp og : Bool) (a b c d l r s : Int) : (binOp .eql 27 (.agg #[.int .i64 z, .int .i64 y, .int .u8 rd, .bool kp, .bool wp, .bool og, .int .i64 a, .int .i64 b, .int .i64 c, .int .i64 d, .int .i64 l, .int .i64 r, .int .i64 s]) (.agg #[.int .i64 z, .int .i64 y, .int .u8 rd, .bool kp, .bool wp, .bool og, .int .i64 a, .int .i64 b, .int .i64 c, .int .i64 d, .int .i64 l, .int .i64 r, .int .i64 s])).run Tryz.prog W = .ok (.bool true) W := by
  rw [run_eql_struct, show (10000 : Nat) = 9996 + 4 from rfl, eq_curR]
  rfl
theorem neq_curR (W : World) (z y rd : Int) (kp wp og : Bool) (a b c d l r s : Int) : (binOp .neq 27 (.agg #[.int .i64 z, .int .i64 y, .int .u8 rd, .bool kp, .bool wp, .bool og, .int .i64 a, .int .i64 b, .int .i64 c, .int .i64 d, .int .i64 l, .int .i64 r, .int .i64 s]) (.agg #[.int .i64 z, .int .i64 y, .int .u8 rd, .bool kp, .bool wp, .bool og, .int .i64 a, .int .i64 b, .int .i64 c, .int .i64 d, .int .i64 l, .int .i64 r, .int .i64 s])).run Tryz.prog W = .ok (.bool false) W := by
  rw [run_neq_struct, show (10000 : Nat) = 9996 + 4 from rfl, eq_curR]
  rfl
theorem guard_curR (W : World) (op : BinOp) (p q : Operand) (xs ys : Array Value) : (eqGuard op 27 p q (.agg xs) (.agg ys)).run Tryz.prog W = .ok () W := run_eqGuard_agg W op _ p q _ _ curRGuard
theorem curUStood : Tryz.prog.stoodInHeld 40 = false := by kernel_rfl
theorem curUGuard : Tryz.prog.eqGuardType Tryz.prog.depth 40 = false := by kernel_rfl
theorem curUFields : (Tryz.prog.fieldsOf 40).toList.map (fun f => (f.name != "_", f.type, f.offset)) = [(true, 37, 0), (true, 22, 2), (true, 4, 3), (true, 4, 4), (true, 4, 5), (true, 38, 6)] := by kernel_rfl
theorem curUUnder : Tryz.prog.underlying 40 = some (.struct (Tryz.prog.fieldsOf 40)) := by kernel_rfl
set_option maxRecDepth 100000 in
theorem eq_curU (W : World) (m : Nat) (z y rd : Int) (kp wp og : Bool) (a b c d l r s : Int) : (Op.equalIn (m + 4) 40 (.agg #[.int .i64 z, .int .i64 y, .int .u8 rd, .bool kp, .bool wp, .bool og, .int .i64 a, .int .i64 b, .int .i64 c, .int .i64 d, .int .i64 l, .int .i64 r, .int .i64 s]) (.agg #[.int .i64 z, .int .i64 y, .int .u8 rd, .bool kp, .bool wp, .bool og, .int .i64 a, .int .i64 b, .int .i64 c, .int .i64 d, .int .i64 l, .int .i64 r, .int .i64 s])).run Tryz.prog W = .ok true W := by
  rw [run_equalIn_struct W (m + 3) 40 _ _ curUUnder curUStood]
  obtain ⟨fs, hfs⟩ : ∃ fs, (Tryz.prog.fieldsOf 40).toList = fs := ⟨_, rfl⟩
  have hf := curUFields
  rw [hfs] at hf ⊢
  match fs, hf with
  | [f0, f1, f2, f3, f4, f5], hf =>
    simp only [List.map_cons, List.map_nil, List.cons.injEq, Prod.mk.injEq, bne_iff_ne, and_true] at hf
    obtain ⟨⟨n0, t0, o0⟩, ⟨n1, t1, o1⟩, ⟨n2, t2, o2⟩, ⟨n3, t3, o3⟩, ⟨n4, t4, o4⟩, ⟨n5, t5, o5⟩⟩ := hf
    have P0 : (part 37 #[.int .i64 z, .int .i64 y, .int .u8 rd, .bool kp, .bool wp, .bool og, .int .i64 a, .int .i64 b, .int .i64 c, .int .i64 d, .int .i64 l, .int .i64 r, .int .i64 s] 0).run Tryz.prog W = .ok (.agg #[.int .i64 z, .int .i64 y]) W := by kernel_rfl
    have P1 : (part 22 #[.int .i64 z, .int .i64 y, .int .u8 rd, .bool kp, .bool wp, .bool og, .int .i64 a, .int .i64 b, .int .i64 c, .int .i64 d, .int .i64 l, .int .i64 r, .int .i64 s] 2).run Tryz.prog W = .ok (.int .u8 rd) W := by kernel_rfl
    have P2 : (part 4 #[.int .i64 z, .int .i64 y, .int .u8 rd, .bool kp, .bool wp, .bool og, .int .i64 a, .int .i64 b, .int .i64 c, .int .i64 d, .int .i64 l, .int .i64 r, .int .i64 s] 3).run Tryz.prog W = .ok (.bool kp) W := by kernel_rfl
    have P3 : (part 4 #[.int .i64 z, .int .i64 y, .int .u8 rd, .bool kp, .bool wp, .bool og, .int .i64 a, .int .i64 b, .int .i64 c, .int .i64 d, .int .i64 l, .int .i64 r, .int .i64 s] 4).run Tryz.prog W = .ok (.bool wp) W := by kernel_rfl
    have P4 : (part 4 #[.int .i64 z, .int .i64 y, .int .u8 rd, .bool kp, .bool wp, .bool og, .int .i64 a, .int .i64 b, .int .i64 c, .int .i64 d, .int .i64 l, .int .i64 r, .int .i64 s] 5).run Tryz.prog W = .ok (.bool og) W := by kernel_rfl
    have P5 : (part 38 #[.int .i64 z, .int .i64 y, .int .u8 rd, .bool kp, .bool wp, .bool og, .int .i64 a, .int .i64 b, .int .i64 c, .int .i64 d, .int .i64 l, .int .i64 r, .int .i64 s] 6).run Tryz.prog W = .ok (.agg #[.int .i64 a, .int .i64 b, .int .i64 c, .int .i64 d, .int .i64 l, .int .i64 r, .int .i64 s]) W := by kernel_rfl
    have E0 : (Op.equalIn (m + 3) 37 (.agg #[.int .i64 z, .int .i64 y]) (.agg #[.int .i64 z, .int .i64 y])).run Tryz.prog W = .ok true W := eq_posU W (m + 1) z y
    have E1 : (Op.equalIn (m + 3) 22 (.int .u8 rd) (.int .u8 rd)).run Tryz.prog W = .ok true W := by rw [run_equalIn_int W (m + 2) 22 .u8 .u8 (rd) (rd) Tryz.underlying22]; simp
    have E2 : (Op.equalIn (m + 3) 4 (.bool kp) (.bool kp)).run Tryz.prog W = .ok true W := by rw [run_equalIn_bool W (m + 2) 4 (kp) (kp) Tryz.underlying4]; simp
    have E3 : (Op.equalIn (m + 3) 4 (.bool wp) (.bool wp)).run Tryz.prog W = .ok true W := by rw [run_equalIn_bool W (m + 2) 4 (wp) (wp) Tryz.underlying4]; simp
    have E4 : (Op.equalIn (m + 3) 4 (.bool og) (.bool og)).run Tryz.prog W = .ok true W := by rw [run_equalIn_bool W (m + 2) 4 (og) (og) Tryz.underlying4]; simp
    have E5 : (Op.equalIn (m + 3) 38 (.agg #[.int .i64 a, .int .i64 b, .int .i64 c, .int .i64 d, .int .i64 l, .int .i64 r, .int .i64 s]) (.agg #[.int .i64 a, .int .i64 b, .int .i64 c, .int .i64 d, .int .i64 l, .int .i64 r, .int .i64 s])).run Tryz.prog W = .ok true W := eq_stI W m a b c d l r s
    simp only [Op.eqFields, t0, o0, n0, t1, o1, n1, t2, o2, n2, t3, o3, n3, t4, o4, n4, t5, o5, n5, ne_eq, not_false_eq_true, if_true, Sem.run_bind, P0, E0, P1, E1, P2, E2, P3, E3, P4, E4, P5, E5, Result.andThen_ok, Sem.run_ite, Sem.run_pure]
    rfl
theorem eql_curU (W : World) (z y rd : Int) (kp wp og : Bool) (a b c d l r s : Int) : (binOp .eql 40 (.agg #[.int .i64 z, .int .i64 y, .int .u8 rd, .bool kp, .bool wp, .bool og, .int .i64 a, .int .i64 b, .int .i64 c, .int .i64 d, .int .i64 l, .int .i64 r, .int .i64 s]) (.agg #[.int .i64 z, .int .i64 y, .int .u8 rd, .bool kp, .bool wp, .bool og, .int .i64 a, .int .i64 b, .int .i64 c, .int .i64 d, .int .i64 l, .int .i64 r, .int .i64 s])).run Tryz.prog W = .ok (.bool true) W := by
  rw [run_eql_struct, show (10000 : Nat) = 9996 + 4 from rfl, eq_curU]
  rfl
theorem neq_curU (W : World) (z y rd : Int) (kp wp og : Bool) (a b c d l r s : Int) : (binOp .neq 40 (.agg #[.int .i64 z, .int .i64 y, .int .u8 rd, .bool kp, .bool wp, .bool og, .int .i64 a, .int .i64 b, .int .i64 c, .int .i64 d, .int .i64 l, .int .i64 r, .int .i64 s]) (.agg #[.int .i64 z, .int .i64 y, .int .u8 rd, .bool kp, .bool wp, .bool og, .int .i64 a, .int .i64 b, .int .i64 c, .int .i64 d, .int .i64 l, .int .i64 r, .int .i64 s])).run Tryz.prog W = .ok (.bool false) W := by
  rw [run_neq_struct, show (10000 : Nat) = 9996 + 4 from rfl, eq_curU]
  rfl
theorem guard_curU (W : World) (op : BinOp) (p q : Operand) (xs ys : Array Value) : (eqGuard op 40 p q (.agg xs) (.agg ys)).run Tryz.prog W = .ok () W := run_eqGuard_agg W op _ p q _ _ curUGuard
end Go.Proofs.YtfnamfkjbkhgeaaGreatDoor

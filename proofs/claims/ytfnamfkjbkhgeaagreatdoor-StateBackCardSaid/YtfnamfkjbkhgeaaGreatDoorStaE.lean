/-
  Cores: as the document has them, as the program has them; new ones; equal to themselves; small ones.
  Cores: small ones; flags.
-/
import Derived.Test.YtfnamfkjbkhgeaaGreatDoorStaC
import Derived.Test.YtfnamfkjbkhgeaaGreatDoorCurM
import Derived.Test.YtfnamfkjbkhgeaaGreatDoorModC
namespace Go.Proofs.YtfnamfkjbkhgeaaGreatDoor

open Go Go.RowKit

theorem frRStood : Tryz.prog.stoodInHeld 31 = false := by kernel_rfl
theorem frRGuard : Tryz.prog.eqGuardType Tryz.prog.depth 31 = false := by kernel_rfl
theorem frRFields : (Tryz.prog.fieldsOf 31).toList.map (fun f => (f.name != "_", f.type, f.offset)) = [(true, 29, 0), (true, 29, 4)] := by kernel_rfl
theorem frRUnder : Tryz.prog.underlying 31 = some (.struct (Tryz.prog.fieldsOf 31)) := by kernel_rfl
set_option maxRecDepth 100000 in
theorem eq_frR (W : World) (m : Nat) (pt pl pb pr mt ml mb mr : Int) : (Op.equalIn (m + 3) 31 (.agg #[.int .i64 pt, .int .i64 pl, .int .i64 pb, .int .i64 pr, .int .i64 mt, .int .i64 ml, .int .i64 mb, .int .i64 mr]) (.agg #[.int .i64 pt, .int .i64 pl, .int .i64 pb, .int .i64 pr, .int .i64 mt, .int .i64 ml, .int .i64 mb, .int .i64 mr])).run Tryz.prog W = .ok true W := by
  rw [run_equalIn_struct W (m + 2) 31 _ _ frRUnder frRStood]
  obtain ⟨fs, hfs⟩ : ∃ fs, (Tryz.prog.fieldsOf 31).toList = fs := ⟨_, rfl⟩
  have hf := frRFields
  rw [hfs] at hf ⊢
  match fs, hf with
  | [f0, f1], hf =>
    simp only [List.map_cons, List.map_nil, List.cons.injEq, Prod.mk.injEq, bne_iff_ne, and_true] at hf
    obtain ⟨⟨n0, t0, o0⟩, ⟨n1, t1, o1⟩⟩ := hf
    have P0 : (part 29 #[.int .i64 pt, .int .i64 pl, .int .i64 pb, .int .i64 pr, .int .i64 mt, .int .i64 ml, .int .i64 mb, .int .i64 mr] 0).run Tryz.prog W = .ok (.agg #[.int .i64 pt, .int .i64 pl, .int .i64 pb, .int .i64 pr]) W := by kernel_rfl
    have P1 : (part 29 #[.int .i64 pt, .int .i64 pl, .int .i64 pb, .int .i64 pr, .int .i64 mt, .int .i64 ml, .int .i64 mb, .int .i64 mr] 4).run Tryz.prog W = .ok (.agg #[.int .i64 mt, .int .i64 ml, .int .i64 mb, .int .i64 mr]) W := by kernel_rfl
    have E0 : (Op.equalIn (m + 2) 29 (.agg #[.int .i64 pt, .int .i64 pl, .int .i64 pb, .int .i64 pr]) (.agg #[.int .i64 pt, .int .i64 pl, .int .i64 pb, .int .i64 pr])).run Tryz.prog W = .ok true W := eq_boxU W m pt pl pb pr
    have E1 : (Op.equalIn (m + 2) 29 (.agg #[.int .i64 mt, .int .i64 ml, .int .i64 mb, .int .i64 mr]) (.agg #[.int .i64 mt, .int .i64 ml, .int .i64 mb, .int .i64 mr])).run Tryz.prog W = .ok true W := eq_boxU W m mt ml mb mr
    simp only [Op.eqFields, t0, o0, n0, t1, o1, n1, ne_eq, not_false_eq_true, if_true, Sem.run_bind, P0, E0, P1, E1, Result.andThen_ok, Sem.run_ite, Sem.run_pure]
    rfl
theorem eql_frR (W : World) (pt pl pb pr mt ml mb mr : Int) : (binOp .eql 31 (.agg #[.int .i64 pt, .int .i64 pl, .int .i64 pb, .int .i64 pr, .int .i64 mt, .int .i64 ml, .int .i64 mb, .int .i64 mr]) (.agg #[.int .i64 pt, .int .i64 pl, .int .i64 pb, .int .i64 pr, .int .i64 mt, .int .i64 ml, .int .i64 mb, .int .i64 mr])).run Tryz.prog W = .ok (.bool true) W := by
  rw [run_eql_struct, show (10000 : Nat) = 9997 + 3 from rfl, eq_frR]
  rfl
theorem neq_frR (W : World) (pt pl pb pr mt ml mb mr : Int) : (binOp .neq 31 (.agg #[.int .i64 pt, .int .i64 pl, .int .i64 pb, .int .i64 pr, .int .i64 mt, .int .i64 ml, .int .i64 mb, .int .i64 mr]) (.agg #[.int .i64 pt, .int .i64 pl, .int .i64 pb, .int .i64 pr, .int .i64 mt, .int .i64 ml, .int .i64 mb, .int .i64 mr])).run Tryz.prog W = .ok (.bool false) W := by
  rw [run_neq_struct, show (10000 : Nat) = 9997 + 3 from rfl, eq_frR]
  rfl
theorem guard_frR (W : World) (op : BinOp) (p q : Operand) (xs ys : Array Value) : (eqGuard op 31 p q (.agg xs) (.agg ys)).run Tryz.prog W = .ok () W := run_eqGuard_agg W op _ p q _ _ frRGuard
theorem coRStood : Tryz.prog.stoodInHeld 33 = false := by kernel_rfl
theorem coRGuard : Tryz.prog.eqGuardType Tryz.prog.depth 33 = false := by kernel_rfl
theorem coRFields : (Tryz.prog.fieldsOf 33).toList.map (fun f => (f.name != "_", f.type, f.offset)) = [(true, 27, 0), (true, 31, 13), (true, 3, 21), (true, 3, 22), (true, 4, 23), (true, 4, 24), (true, 3, 25), (true, 4, 26), (true, 3, 27), (true, 3, 28)] := by kernel_rfl
theorem coRUnder : Tryz.prog.underlying 33 = some (.struct (Tryz.prog.fieldsOf 33)) := by kernel_rfl
set_option maxRecDepth 100000 in
theorem eq_coR (W : World) (m : Nat) (r c rd : Int) (kp wp og : Bool) (a b cc d l rr s pt pl pb pr mt ml mb mr mz lv : Int) (eg st : Bool) (su : Int) (bl : Bool) (pg ps : Int) : (Op.equalIn (m + 5) 33 (.agg #[.int .i64 r, .int .i64 c, .int .u8 rd, .bool kp, .bool wp, .bool og, .int .i64 a, .int .i64 b, .int .i64 cc, .int .i64 d, .int .i64 l, .int .i64 rr, .int .i64 s, .int .i64 pt, .int .i64 pl, .int .i64 pb, .int .i64 pr, .int .i64 mt, .int .i64 ml, .int .i64 mb, .int .i64 mr, .int .i64 mz, .int .i64 lv, .bool eg, .bool st, .int .i64 su, .bool bl, .int .i64 pg, .int .i64 ps]) (.agg #[.int .i64 r, .int .i64 c, .int .u8 rd, .bool kp, .bool wp, .bool og, .int .i64 a, .int .i64 b, .int .i64 cc, .int .i64 d, .int .i64 l, .int .i64 rr, .int .i64 s, .int .i64 pt, .int .i64 pl, .int .i64 pb, .int .i64 pr, .int .i64 mt, .int .i64 ml, .int .i64 mb, .int .i64 mr, .int .i64 mz, .int .i64 lv, .bool eg, .bool st, .int .i64 su, .bool bl, .int .i64 pg, .int .i64 ps])).run Tryz.prog W = .ok true W := by
  rw [run_equalIn_struct W (m + 4) 33 _ _ coRUnder coRStood]
  obtain ⟨fs, hfs⟩ : ∃ fs, (Tryz.prog.fieldsOf 33).toList = fs := ⟨_, rfl⟩
  have hf := coRFields
  rw [hfs] at hf ⊢
  match fs, hf with
  | [f0, f1, f2, f3, f4, f5, f6, f7, f8, f9], hf =>
    simp only [List.map_cons, List.map_nil, List.cons.injEq, Prod.mk.injEq, bne_iff_ne, and_true] at hf
    obtain ⟨⟨n0, t0, o0⟩, ⟨n1, t1, o1⟩, ⟨n2, t2, o2⟩, ⟨n3, t3, o3⟩, ⟨n4, t4, o4⟩, ⟨n5, t5, o5⟩, ⟨n6, t6, o6⟩, ⟨n7, t7, o7⟩, ⟨n8, t8, o8⟩, ⟨n9, t9, o9⟩⟩ := hf
    have P0 : (part 27 #[.int .i64 r, .int .i64 c, .int .u8 rd, .bool kp, .bool wp, .bool og, .int .i64 a, .int .i64 b, .int .i64 cc, .int .i64 d, .int .i64 l, .int .i64 rr, .int .i64 s, .int .i64 pt, .int .i64 pl, .int .i64 pb, .int .i64 pr, .int .i64 mt, .int .i64 ml, .int .i64 mb, .int .i64 mr, .int .i64 mz, .int .i64 lv, .bool eg, .bool st, .int .i64 su, .bool bl, .int .i64 pg, .int .i64 ps] 0).run Tryz.prog W = .ok (.agg #[.int .i64 r, .int .i64 c, .int .u8 rd, .bool kp, .bool wp, .bool og, .int .i64 a, .int .i64 b, .int .i64 cc, .int .i64 d, .int .i64 l, .int .i64 rr, .int .i64 s]) W := by kernel_rfl
    have P1 : (part 31 #[.int .i64 r, .int .i64 c, .int .u8 rd, .bool kp, .bool wp, .bool og, .int .i64 a, .int .i64 b, .int .i64 cc, .int .i64 d, .int .i64 l, .int .i64 rr, .int .i64 s, .int .i64 pt, .int .i64 pl, .int .i64 pb, .int .i64 pr, .int .i64 mt, .int .i64 ml, .int .i64 mb, .int .i64 mr, .int .i64 mz, .int .i64 lv, .bool eg, .bool st, .int .i64 su, .bool bl, .int .i64 pg, .int .i64 ps] 13).run Tryz.prog W = .ok (.agg #[.int .i64 pt, .int .i64 pl, .int .i64 pb, .int .i64 pr, .int .i64 mt, .int .i64 ml, .int .i64 mb, .int .i64 mr]) W := by kernel_rfl
    have P2 : (part 3 #[.int .i64 r, .int .i64 c, .int .u8 rd, .bool kp, .bool wp, .bool og, .int .i64 a, .int .i64 b, .int .i64 cc, .int .i64 d, .int .i64 l, .int .i64 rr, .int .i64 s, .int .i64 pt, .int .i64 pl, .int .i64 pb, .int .i64 pr, .int .i64 mt, .int .i64 ml, .int .i64 mb, .int .i64 mr, .int .i64 mz, .int .i64 lv, .bool eg, .bool st, .int .i64 su, .bool bl, .int .i64 pg, .int .i64 ps] 21).run Tryz.prog W = .ok (.int .i64 mz) W := by kernel_rfl
    have P3 : (part 3 #[.int .i64 r, .int .i64 c, .int .u8 rd, .bool kp, .bool wp, .bool og, .int .i64 a, .int .i64 b, .int .i64 cc, .int .i64 d, .int .i64 l, .int .i64 rr, .int .i64 s, .int .i64 pt, .int .i64 pl, .int .i64 pb, .int .i64 pr, .int .i64 mt, .int .i64 ml, .int .i64 mb, .int .i64 mr, .int .i64 mz, .int .i64 lv, .bool eg, .bool st, .int .i64 su, .bool bl, .int .i64 pg, .int .i64 ps] 22).run Tryz.prog W = .ok (.int .i64 lv) W := by kernel_rfl
    have P4 : (part 4 #[.int .i64 r, .int .i64 c, .int .u8 rd, .bool kp, .bool wp, .bool og, .int .i64 a, .int .i64 b, .int .i64 cc, .int .i64 d, .int .i64 l, .int .i64 rr, .int .i64 s, .int .i64 pt, .int .i64 pl, .int .i64 pb, .int .i64 pr, .int .i64 mt, .int .i64 ml, .int .i64 mb, .int .i64 mr, .int .i64 mz, .int .i64 lv, .bool eg, .bool st, .int .i64 su, .bool bl, .int .i64 pg, .int .i64 ps] 23).run Tryz.prog W = .ok (.bool eg) W := by kernel_rfl
    have P5 : (part 4 #[.int .i64 r, .int .i64 c, .int .u8 rd, .bool kp, .bool wp, .bool og, .int .i64 a, .int .i64 b, .int .i64 cc, .int .i64 d, .int .i64 l, .int .i64 rr, .int .i64 s, .int .i64 pt, .int .i64 pl, .int .i64 pb, .int .i64 pr, .int .i64 mt, .int .i64 ml, .int .i64 mb, .int .i64 mr, .int .i64 mz, .int .i64 lv, .bool eg, .bool st, .int .i64 su, .bool bl, .int .i64 pg, .int .i64 ps] 24).run Tryz.prog W = .ok (.bool st) W := by kernel_rfl
    have P6 : (part 3 #[.int .i64 r, .int .i64 c, .int .u8 rd, .bool kp, .bool wp, .bool og, .int .i64 a, .int .i64 b, .int .i64 cc, .int .i64 d, .int .i64 l, .int .i64 rr, .int .i64 s, .int .i64 pt, .int .i64 pl, .int .i64 pb, .int .i64 pr, .int .i64 mt, .int .i64 ml, .int .i64 mb, .int .i64 mr, .int .i64 mz, .int .i64 lv, .bool eg, .bool st, .int .i64 su, .bool bl, .int .i64 pg, .int .i64 ps] 25).run Tryz.prog W = .ok (.int .i64 su) W := by kernel_rfl
    have P7 : (part 4 #[.int .i64 r, .int .i64 c, .int .u8 rd, .bool kp, .bool wp, .bool og, .int .i64 a, .int .i64 b, .int .i64 cc, .int .i64 d, .int .i64 l, .int .i64 rr, .int .i64 s, .int .i64 pt, .int .i64 pl, .int .i64 pb, .int .i64 pr, .int .i64 mt, .int .i64 ml, .int .i64 mb, .int .i64 mr, .int .i64 mz, .int .i64 lv, .bool eg, .bool st, .int .i64 su, .bool bl, .int .i64 pg, .int .i64 ps] 26).run Tryz.prog W = .ok (.bool bl) W := by kernel_rfl
    have P8 : (part 3 #[.int .i64 r, .int .i64 c, .int .u8 rd, .bool kp, .bool wp, .bool og, .int .i64 a, .int .i64 b, .int .i64 cc, .int .i64 d, .int .i64 l, .int .i64 rr, .int .i64 s, .int .i64 pt, .int .i64 pl, .int .i64 pb, .int .i64 pr, .int .i64 mt, .int .i64 ml, .int .i64 mb, .int .i64 mr, .int .i64 mz, .int .i64 lv, .bool eg, .bool st, .int .i64 su, .bool bl, .int .i64 pg, .int .i64 ps] 27).run Tryz.prog W = .ok (.int .i64 pg) W := by kernel_rfl
    have P9 : (part 3 #[.int .i64 r, .int .i64 c, .int .u8 rd, .bool kp, .bool wp, .bool og, .int .i64 a, .int .i64 b, .int .i64 cc, .int .i64 d, .int .i64 l, .int .i64 rr, .int .i64 s, .int .i64 pt, .int .i64 pl, .int .i64 pb, .int .i64 pr, .int .i64 mt, .int .i64 ml, .int .i64 mb, .int .i64 mr, .int .i64 mz, .int .i64 lv, .bool eg, .bool st, .int .i64 su, .bool bl, .int .i64 pg, .int .i64 ps] 28).run Tryz.prog W = .ok (.int .i64 ps) W := by kernel_rfl
    have E0 : (Op.equalIn (m + 4) 27 (.agg #[.int .i64 r, .int .i64 c, .int .u8 rd, .bool kp, .bool wp, .bool og, .int .i64 a, .int .i64 b, .int .i64 cc, .int .i64 d, .int .i64 l, .int .i64 rr, .int .i64 s]) (.agg #[.int .i64 r, .int .i64 c, .int .u8 rd, .bool kp, .bool wp, .bool og, .int .i64 a, .int .i64 b, .int .i64 cc, .int .i64 d, .int .i64 l, .int .i64 rr, .int .i64 s])).run Tryz.prog W = .ok true W := eq_curR W m r c rd kp wp og a b cc d l rr s
    have E1 : (Op.equalIn (m + 4) 31 (.agg #[.int .i64 pt, .int .i64 pl, .int .i64 pb, .int .i64 pr, .int .i64 mt, .int .i64 ml, .int .i64 mb, .int .i64 mr]) (.agg #[.int .i64 pt, .int .i64 pl, .int .i64 pb, .int .i64 pr, .int .i64 mt, .int .i64 ml, .int .i64 mb, .int .i64 mr])).run Tryz.prog W = .ok true W := eq_frR W (m + 1) pt pl pb pr mt ml mb mr
    have E2 : (Op.equalIn (m + 4) 3 (.int .i64 mz) (.int .i64 mz)).run Tryz.prog W = .ok true W := by rw [run_equalIn_int W (m + 3) 3 .i64 .i64 (mz) (mz) Tryz.underlying3]; simp
    have E3 : (Op.equalIn (m + 4) 3 (.int .i64 lv) (.int .i64 lv)).run Tryz.prog W = .ok true W := by rw [run_equalIn_int W (m + 3) 3 .i64 .i64 (lv) (lv) Tryz.underlying3]; simp
    have E4 : (Op.equalIn (m + 4) 4 (.bool eg) (.bool eg)).run Tryz.prog W = .ok true W := by rw [run_equalIn_bool W (m + 3) 4 (eg) (eg) Tryz.underlying4]; simp
    have E5 : (Op.equalIn (m + 4) 4 (.bool st) (.bool st)).run Tryz.prog W = .ok true W := by rw [run_equalIn_bool W (m + 3) 4 (st) (st) Tryz.underlying4]; simp
    have E6 : (Op.equalIn (m + 4) 3 (.int .i64 su) (.int .i64 su)).run Tryz.prog W = .ok true W := by rw [run_equalIn_int W (m + 3) 3 .i64 .i64 (su) (su) Tryz.underlying3]; simp
    have E7 : (Op.equalIn (m + 4) 4 (.bool bl) (.bool bl)).run Tryz.prog W = .ok true W := by rw [run_equalIn_bool W (m + 3) 4 (bl) (bl) Tryz.underlying4]; simp
    have E8 : (Op.equalIn (m + 4) 3 (.int .i64 pg) (.int .i64 pg)).run Tryz.prog W = .ok true W := by rw [run_equalIn_int W (m + 3) 3 .i64 .i64 (pg) (pg) Tryz.underlying3]; simp
    have E9 : (Op.equalIn (m + 4) 3 (.int .i64 ps) (.int .i64 ps)).run Tryz.prog W = .ok true W := by rw [run_equalIn_int W (m + 3) 3 .i64 .i64 (ps) (ps) Tryz.underlying3]; simp
    simp only [Op.eqFields, t0, o0, n0, t1, o1, n1, t2, o2, n2, t3, o3, n3, t4, o4, n4, t5, o5, n5, t6, o6, n6, t7, o7, n7, t8, o8, n8, t9, o9, n9, ne_eq, not_false_eq_true, if_true, Sem.run_bind, P0, E0, P1, E1, P2, E2, P3, E3, P4, E4, P5, E5, P6, E6, P7, E7, P8, E8, P9, E9, Result.andThen_ok, Sem.run_ite, Sem.run_pure]
    rfl
theorem eql_coR (W : World) (r c rd : Int) (kp wp og : Bool) (a b cc d l rr s pt pl pb pr mt ml mb mr mz lv : Int) (eg st : Bool) (su : Int) (bl : Bool) (pg ps : Int) : (binOp .eql 33 (.agg #[.int .i64 r, .int .i64 c, .int .u8 rd, .bool kp, .bool wp, .bool og, .int .i64 a, .int .i64 b, .int .i64 cc, .int .i64 d, .int .i64 l, .int .i64 rr, .int .i64 s, .int .i64 pt, .int .i64 pl, .int .i64 pb, .int .i64 pr, .int .i64 mt, .int .i64 ml, .int .i64 mb, .int .i64 mr, .int .i64 mz, .int .i64 lv, .bool eg, .bool st, .int .i64 su, .bool bl, .int .i64 pg, .int .i64 ps]) (.agg #[.int .i64 r, .int .i64 c, .int .u8 rd, .bool kp, .bool wp, .bool og, .int .i64 a, .int .i64 b, .int .i64 cc, .int .i64 d, .int .i64 l, .int .i64 rr, .int .i64 s, .int .i64 pt, .int .i64 pl, .int .i64 pb, .int .i64 pr, .int .i64 mt, .int .i64 ml, .int .i64 mb, .int .i64 mr, .int .i64 mz, .int .i64 lv, .bool eg, .bool st, .int .i64 su, .bool bl, .int .i64 pg, .int .i64 ps])).run Tryz.prog W = .ok (.bool true) W := by
  rw [run_eql_struct, show (10000 : Nat) = 9995 + 5 from rfl, eq_coR]
  rfl
theorem neq_coR (W : World) (r c rd : Int) (kp wp og : Bool) (a b cc d l rr s pt pl pb pr mt ml mb mr mz lv : Int) (eg st : Bool) (su : Int) (bl : Bool) (pg ps : Int) : (binOp .neq 33 (.agg #[.int .i64 r, .int .i64 c, .int .u8 rd, .bool kp, .bool wp, .bool og, .int .i64 a, .int .i64 b, .int .i64 cc, .int .i64 d, .int .i64 l, .int .i64 rr, .int .i64 s, .int .i64 pt, .int .i64 pl, .int .i64 pb, .int .i64 pr, .int .i64 mt, .int .i64 ml, .int .i64 mb, .int .i64 mr, .int .i64 mz, .int .i64 lv, .bool eg, .bool st, .int .i64 su, .bool bl, .int .i64 pg, .int .i64 ps]) (.agg #[.int .i64 r, .int .i64 c, .int .u8 rd, .bool kp, .bool wp, .bool og, .int .i64 a, .int .i64 b, .int .i64 cc, .int .i64 d, .int .i64 l, .int .i64 rr, .int .i64 s, .int .i64 pt, .int .i64 pl, .int .i64 pb, .int .i64 pr, .int .i64 mt, .int .i64 ml, .int .i64 mb, .int .i64 mr, .int .i64 mz, .int .i64 lv, .bool eg, .bool st, .int .i64 su, .bool bl, .int .i64 pg, .int .i64 ps])).run Tryz.prog W = .ok (.bool false) W := by
  rw [run_neq_struct, show (10000 : Nat) = 9995 + 5 from rfl, eq_coR]
  rfl
theorem guard_coR (W : World) (op : BinOp) (p q : Operand) (xs ys : Array Value) : (eqGuard op 33 p q (.agg xs) (.agg ys)).run Tryz.prog W = .ok () W := run_eqGuard_agg W op _ p q _ _ coRGuard
theorem eql_co (W : World) (x : Co) : (binOp .eql 33 (coV .i64 x) (coV .i64 x)).run Tryz.prog W = .ok (.bool true) W := eql_coR W x.r x.c x.K.rd x.K.kp x.wp x.K.og x.K.a x.K.b x.K.c x.K.d x.K.l x.K.r x.K.s x.f.pt x.f.pl x.f.pb x.f.pr x.f.mt x.f.ml x.f.mb x.f.mr x.m x.lv x.eg x.st x.su x.bl x.pg x.ps
theorem neq_co (W : World) (x : Co) : (binOp .neq 33 (coV .i64 x) (coV .i64 x)).run Tryz.prog W = .ok (.bool false) W := neq_coR W x.r x.c x.K.rd x.K.kp x.wp x.K.og x.K.a x.K.b x.K.c x.K.d x.K.l x.K.r x.K.s x.f.pt x.f.pl x.f.pb x.f.pr x.f.mt x.f.ml x.f.mb x.f.mr x.m x.lv x.eg x.st x.su x.bl x.pg x.ps
theorem guard_co (W : World) (op : BinOp) (p q : Operand) (x y : Co) : (eqGuard op 33 p q (coV .i64 x) (coV .i64 y)).run Tryz.prog W = .ok () W := guard_coR W op p q _ _
theorem co29 {w : World} {g : Nat} {T : TypeId} {v0 v1 v2 v3 v4 v5 v6 v7 v8 v9 v10 v11 v12 v13 v14 v15 v16 v17 v18 v19 v20 v21 v22 v23 v24 v25 v26 v27 v28 : Value} (h : Blk w g T #[v0, v1, v2, v3, v4, v5, v6, v7, v8, v9, v10, v11, v12, v13, v14, v15, v16, v17, v18, v19, v20, v21, v22, v23, v24, v25, v26, v27, v28]) : w.cell? ⟨g, 0, none⟩ = some v0 ∧ w.cell? ⟨g, 1, none⟩ = some v1 ∧ w.cell? ⟨g, 2, none⟩ = some v2 ∧ w.cell? ⟨g, 3, none⟩ = some v3 ∧ w.cell? ⟨g, 4, none⟩ = some v4 ∧ w.cell? ⟨g, 5, none⟩ = some v5 ∧ w.cell? ⟨g, 6, none⟩ = some v6 ∧ w.cell? ⟨g, 7, none⟩ = some v7 ∧ w.cell? ⟨g, 8, none⟩ = some v8 ∧ w.cell? ⟨g, 9, none⟩ = some v9 ∧ w.cell? ⟨g, 10, none⟩ = some v10 ∧ w.cell? ⟨g, 11, none⟩ = some v11 ∧ w.cell? ⟨g, 12, none⟩ = some v12 ∧ w.cell? ⟨g, 13, none⟩ = some v13 ∧ w.cell? ⟨g, 14, none⟩ = some v14 ∧ w.cell? ⟨g, 15, none⟩ = some v15 ∧ w.cell? ⟨g, 16, none⟩ = some v16 ∧ w.cell? ⟨g, 17, none⟩ = some v17 ∧ w.cell? ⟨g, 18, none⟩ = some v18 ∧ w.cell? ⟨g, 19, none⟩ = some v19 ∧ w.cell? ⟨g, 20, none⟩ = some v20 ∧ w.cell? ⟨g, 21, none⟩ = some v21 ∧ w.cell? ⟨g, 22, none⟩ = some v22 ∧ w.cell? ⟨g, 23, none⟩ = some v23 ∧ w.cell? ⟨g, 24, none⟩ = some v24 ∧ w.cell? ⟨g, 25, none⟩ = some v25 ∧ w.cell? ⟨g, 26, none⟩ = some v26 ∧ w.cell? ⟨g, 27, none⟩ = some v27 ∧ w.cell? ⟨g, 28, none⟩ = some v28 :=
  ⟨h.cell 0, h.cell 1, h.cell 2, h.cell 3, h.cell 4, h.cell 5, h.cell 6, h.cell 7, h.cell 8, h.cell 9, h.cell 10, h.cell 11, h.cell 12, h.cell 13, h.cell 14, h.cell 15, h.cell 16, h.cell 17, h.cell 18, h.cell 19, h.cell 20, h.cell 21, h.cell 22, h.cell 23, h.cell 24, h.cell 25, h.cell 26, h.cell 27, h.cell 28⟩
set_option maxRecDepth 100000 in
set_option maxHeartbeats 8000000 in
theorem coOwn_any {x : Co} (hm : x.m < 2 ^ 32) (w : World) : Calls Tryz.prog 8 #[coV .i64 x] w fun e w' => e = .returned (coV .u32 x) ∧ Below w.heap.size w w' := by
  have hz : IntKind.u32.wrap (x.m : Int) = (x.m : Int) := by have := wrap_bv32 (BitVec.ofNat 32 x.m); rwa [bv_eq hm] at this
  have hz2 : IntKind.i64.wrap (x.m : Int) = (x.m : Int) := IntWalk.i64_in _ (by omega)
  have HN := Lib.hid (fun V => cOwn_any x.r x.c x.wp x.K V)
  have HF := Lib.hid (fun V => lFrame_any x.f V)
  have ho := co_one .u32 x
  unfold coV at *
  clear hm
  obtain ⟨r, c, wp, ⟨rd, kp, og, a, b, cc, d, l, rr, s⟩, ⟨pt, pl, pb, pr, mt, ml, mb, mr⟩, m, lv, eg, st, su, bl, pg, ps⟩ := x
  simp only [coC] at *
  unfold uV fV at *
  generalize (m : Int) = mz at *
  have HS := Lib.hid (Bs.start2 w 33 45 #[.int .i64 r, .int .i64 c, .int .u8 rd, .bool kp, .bool wp, .bool og, .int .i64 a, .int .i64 b, .int .i64 cc, .int .i64 d, .int .i64 l, .int .i64 rr, .int .i64 s, .int .i64 pt, .int .i64 pl, .int .i64 pb, .int .i64 pr, .int .i64 mt, .int .i64 ml, .int .i64 mb, .int .i64 mr, .int .i64 mz, .int .i64 lv, .bool eg, .bool st, .int .i64 su, .bool bl, .int .i64 pg, .int .i64 ps] (zO .u32))
  go_enter Tryz.func8, Tryz.ntmps8
  go_upto_region 1 with fail
  refine world_gen (fun W => Bs w [(w.heap.size + 1, 45, zO .u32), (w.heap.size, 33, #[.int .i64 r, .int .i64 c, .int .u8 rd, .bool kp, .bool wp, .bool og, .int .i64 a, .int .i64 b, .int .i64 cc, .int .i64 d, .int .i64 l, .int .i64 rr, .int .i64 s, .int .i64 pt, .int .i64 pl, .int .i64 pb, .int .i64 pr, .int .i64 mt, .int .i64 ml, .int .i64 mb, .int .i64 mr, .int .i64 mz, .int .i64 lv, .bool eg, .bool st, .int .i64 su, .bool bl, .int .i64 pg, .int .i64 ps])] W) HS.out ?_
  intro W HW
  replace HW := Lib.hid HW
  have HC := Lib.hid (fun w' (h : Only [w.heap.size + 1] W w') => co29 (h.blk HW.out.b1 (by simp)))
  clear HS
  --#O1
  refine wp_region_mix_lit (by kernel_rfl) [(2, .call (.agg #[.int .i64 r, .int .i64 c, .int .u8 rd, .bool kp, .bool wp, .bool og, .int .i64 a, .int .i64 b, .int .i64 cc, .int .i64 d, .int .i64 l, .int .i64 rr, .int .i64 s])), (5, .call (.agg #[.int .i64 pt, .int .i64 pl, .int .i64 pb, .int .i64 pr, .int .i64 mt, .int .i64 ml, .int .i64 mb, .int .i64 mr])), (24, .store (w.heap.size + 1) 45 (zO .u32) (fun _ => #[.int .i64 r, .int .i64 c, .int .u8 rd, .bool kp, .bool wp, .bool og, .int .i64 a, .int .i64 b, .int .i64 cc, .int .i64 d, .int .i64 l, .int .i64 rr, .int .i64 s, .int .i64 pt, .int .i64 pl, .int .i64 pb, .int .i64 pr, .int .i64 mt, .int .i64 ml, .int .i64 mb, .int .i64 mr, .int .u32 mz, .int .i64 lv, .bool eg, .bool st, .int .i64 su, .bool bl, .int .i64 pg, .int .i64 ps]))] (by kernel_rfl) (by kernel_rfl) (by kernel_rfl) (by rfl) (by simp [apartK] <;> omega) (by simp [startK]; exact HW.out.b0) (by simp [stabK]) (⟨fun _ => undef, by simp [okK]⟩) (fun β hβ => ?_)
  repeat (
    refine lex_val (v := ?_) rfl rfl (fun w' hf => ?_) ?_
    rotate_left
    · obtain ⟨c0, c1, c2, c3, c4, c5, c6, c7, c8, c9, c10, c11, c12, c13, c14, c15, c16, c17, c18, c19, c20, c21, c22, c23, c24, c25, c26, c27, c28⟩ := HC.out w' hf.only; go_simp
      try rfl
    try simp only [Act.put, List.setIfInBounds_toArray, List.set_cons_zero, List.set_cons_succ])
  refine lex_call (f := 22) (args := ?_) rfl rfl (fun w' hf => ?_) (fun w' hf => ?_) ?_
  rotate_left
  · go_simp
    try rfl
  · exact HN.out w'
  try simp only [Act.put, List.setIfInBounds_toArray, List.set_cons_zero, List.set_cons_succ]
  repeat (
    refine lex_val (v := ?_) rfl rfl (fun w' hf => ?_) ?_
    rotate_left
    · obtain ⟨c0, c1, c2, c3, c4, c5, c6, c7, c8, c9, c10, c11, c12, c13, c14, c15, c16, c17, c18, c19, c20, c21, c22, c23, c24, c25, c26, c27, c28⟩ := HC.out w' hf.only; go_simp
      try rfl
    try simp only [Act.put, List.setIfInBounds_toArray, List.set_cons_zero, List.set_cons_succ])
  refine lex_call (f := 23) (args := ?_) rfl rfl (fun w' hf => ?_) (fun w' hf => ?_) ?_
  rotate_left
  · go_simp
    try rfl
  · exact HF.out w'
  try simp only [Act.put, List.setIfInBounds_toArray, List.set_cons_zero, List.set_cons_succ]
  repeat (
    refine lex_val (v := ?_) rfl rfl (fun w' hf => ?_) ?_
    rotate_left
    · obtain ⟨c0, c1, c2, c3, c4, c5, c6, c7, c8, c9, c10, c11, c12, c13, c14, c15, c16, c17, c18, c19, c20, c21, c22, c23, c24, c25, c26, c27, c28⟩ := HC.out w' hf.only; go_simp
      try rfl
    try simp only [Act.put, List.setIfInBounds_toArray, List.set_cons_zero, List.set_cons_succ])
  --#O2
  refine lex_store rfl rfl (fun w' hf hB => ⟨_, exec_store_row 45 (.tmp 2) (.tmp 26) rfl rfl rfl hB info_co rfl ho, row_repl hB _⟩) ?_
  try simp only [Act.put]
  refine lex_nil fun w1 he => ?_
  have hb9 : Blk w1 (w.heap.size + 1) 45 #[.int .i64 r, .int .i64 c, .int .u8 rd, .bool kp, .bool wp, .bool og, .int .i64 a, .int .i64 b, .int .i64 cc, .int .i64 d, .int .i64 l, .int .i64 rr, .int .i64 s, .int .i64 pt, .int .i64 pl, .int .i64 pb, .int .i64 pr, .int .i64 mt, .int .i64 ml, .int .i64 mb, .int .i64 mr, .int .u32 mz, .int .i64 lv, .bool eg, .bool st, .int .i64 su, .bool bl, .int .i64 pg, .int .i64 ps] := he.facts 24
  have HK1 := Lib.hid (Bs.mix HW.out he.only hb9)
  clear he hb9 HW HC hβ
  --#O3
  repeat go_step
  refine bodyPost_ret (v := .agg #[.int .i64 r, .int .i64 c, .int .u8 rd, .bool kp, .bool wp, .bool og, .int .i64 a, .int .i64 b, .int .i64 cc, .int .i64 d, .int .i64 l, .int .i64 rr, .int .i64 s, .int .i64 pt, .int .i64 pl, .int .i64 pb, .int .i64 pr, .int .i64 mt, .int .i64 ml, .int .i64 mb, .int .i64 mr, .int .u32 mz, .int .i64 lv, .bool eg, .bool st, .int .i64 su, .bool bl, .int .i64 pg, .int .i64 ps]) (results_cell_row rfl _ _ (w.heap.size + 1) 45 #[.int .i64 r, .int .i64 c, .int .u8 rd, .bool kp, .bool wp, .bool og, .int .i64 a, .int .i64 b, .int .i64 cc, .int .i64 d, .int .i64 l, .int .i64 rr, .int .i64 s, .int .i64 pt, .int .i64 pl, .int .i64 pb, .int .i64 pr, .int .i64 mt, .int .i64 ml, .int .i64 mb, .int .i64 mr, .int .u32 mz, .int .i64 lv, .bool eg, .bool st, .int .i64 su, .bool bl, .int .i64 pg, .int .i64 ps] (0, 0) _ rfl HK1.out.b0 under_co rfl info_co) rfl ⟨rfl, HK1.out.bel⟩
set_option maxRecDepth 100000 in
set_option maxHeartbeats 8000000 in
theorem coTold_any {x : Co} (hm : x.m < 2 ^ 32) (w : World) : Calls Tryz.prog 13 #[coV .u32 x] w fun e w' => e = .returned (coV .i64 x) ∧ Below w.heap.size w w' := by
  have hz : IntKind.u32.wrap (x.m : Int) = (x.m : Int) := by have := wrap_bv32 (BitVec.ofNat 32 x.m); rwa [bv_eq hm] at this
  have hz2 : IntKind.i64.wrap (x.m : Int) = (x.m : Int) := IntWalk.i64_in _ (by omega)
  have HN := Lib.hid (fun V => cTold_any x.r x.c x.wp x.K V)
  have HF := Lib.hid (fun V => lFrame_any x.f V)
  have ho := co_one .i64 x
  unfold coV at *
  clear hm
  obtain ⟨r, c, wp, ⟨rd, kp, og, a, b, cc, d, l, rr, s⟩, ⟨pt, pl, pb, pr, mt, ml, mb, mr⟩, m, lv, eg, st, su, bl, pg, ps⟩ := x
  simp only [coC] at *
  unfold uV fV at *
  generalize (m : Int) = mz at *
  have HS := Lib.hid (Bs.start2 w 45 33 #[.int .i64 r, .int .i64 c, .int .u8 rd, .bool kp, .bool wp, .bool og, .int .i64 a, .int .i64 b, .int .i64 cc, .int .i64 d, .int .i64 l, .int .i64 rr, .int .i64 s, .int .i64 pt, .int .i64 pl, .int .i64 pb, .int .i64 pr, .int .i64 mt, .int .i64 ml, .int .i64 mb, .int .i64 mr, .int .u32 mz, .int .i64 lv, .bool eg, .bool st, .int .i64 su, .bool bl, .int .i64 pg, .int .i64 ps] (zO .i64))
  go_enter Tryz.func13, Tryz.ntmps13
  go_upto_region 1 with fail
  refine world_gen (fun W => Bs w [(w.heap.size + 1, 33, zO .i64), (w.heap.size, 45, #[.int .i64 r, .int .i64 c, .int .u8 rd, .bool kp, .bool wp, .bool og, .int .i64 a, .int .i64 b, .int .i64 cc, .int .i64 d, .int .i64 l, .int .i64 rr, .int .i64 s, .int .i64 pt, .int .i64 pl, .int .i64 pb, .int .i64 pr, .int .i64 mt, .int .i64 ml, .int .i64 mb, .int .i64 mr, .int .u32 mz, .int .i64 lv, .bool eg, .bool st, .int .i64 su, .bool bl, .int .i64 pg, .int .i64 ps])] W) HS.out ?_
  intro W HW
  replace HW := Lib.hid HW
  have HC := Lib.hid (fun w' (h : Only [w.heap.size + 1] W w') => co29 (h.blk HW.out.b1 (by simp)))
  clear HS
  --#T1
  refine wp_region_mix_lit (by kernel_rfl) [(2, .call (.agg #[.int .i64 r, .int .i64 c, .int .u8 rd, .bool kp, .bool wp, .bool og, .int .i64 a, .int .i64 b, .int .i64 cc, .int .i64 d, .int .i64 l, .int .i64 rr, .int .i64 s])), (28, .store (w.heap.size + 1) 33 (zO .i64) (fun _ => #[.int .i64 r, .int .i64 c, .int .u8 rd, .bool kp, .bool wp, .bool og, .int .i64 a, .int .i64 b, .int .i64 cc, .int .i64 d, .int .i64 l, .int .i64 rr, .int .i64 s, .int .i64 pt, .int .i64 pl, .int .i64 pb, .int .i64 pr, .int .i64 mt, .int .i64 ml, .int .i64 mb, .int .i64 mr, .int .i64 mz, .int .i64 lv, .bool eg, .bool st, .int .i64 su, .bool bl, .int .i64 pg, .int .i64 ps]))] (by kernel_rfl) (by kernel_rfl) (by kernel_rfl) (by rfl) (by simp [apartK] <;> omega) (by simp [startK]; exact HW.out.b0) (by simp [stabK]) (⟨fun _ => undef, by simp [okK]⟩) (fun β hβ => ?_)
  repeat (
    refine lex_val (v := ?_) rfl rfl (fun w' hf => ?_) ?_
    rotate_left
    · obtain ⟨c0, c1, c2, c3, c4, c5, c6, c7, c8, c9, c10, c11, c12, c13, c14, c15, c16, c17, c18, c19, c20, c21, c22, c23, c24, c25, c26, c27, c28⟩ := HC.out w' hf.only; go_simp
      try rfl
    try simp only [Act.put, List.setIfInBounds_toArray, List.set_cons_zero, List.set_cons_succ])
  refine lex_call (f := 41) (args := ?_) rfl rfl (fun w' hf => ?_) (fun w' hf => ?_) ?_
  rotate_left
  · go_simp
    try rfl
  · exact HN.out w'
  try simp only [Act.put, List.setIfInBounds_toArray, List.set_cons_zero, List.set_cons_succ]
  repeat (
    refine lex_val (v := ?_) rfl rfl (fun w' hf => ?_) ?_
    rotate_left
    · obtain ⟨c0, c1, c2, c3, c4, c5, c6, c7, c8, c9, c10, c11, c12, c13, c14, c15, c16, c17, c18, c19, c20, c21, c22, c23, c24, c25, c26, c27, c28⟩ := HC.out w' hf.only; go_simp
      try rfl
    try simp only [Act.put, List.setIfInBounds_toArray, List.set_cons_zero, List.set_cons_succ])
  --#T2
  refine lex_store rfl rfl (fun w' hf hB => ⟨_, exec_store_row 33 (.tmp 2) (.tmp 30) rfl rfl rfl hB info_cr rfl ho, row_repl hB _⟩) ?_
  try simp only [Act.put]
  refine lex_nil fun w1 he => ?_
  have hb9 : Blk w1 (w.heap.size + 1) 33 #[.int .i64 r, .int .i64 c, .int .u8 rd, .bool kp, .bool wp, .bool og, .int .i64 a, .int .i64 b, .int .i64 cc, .int .i64 d, .int .i64 l, .int .i64 rr, .int .i64 s, .int .i64 pt, .int .i64 pl, .int .i64 pb, .int .i64 pr, .int .i64 mt, .int .i64 ml, .int .i64 mb, .int .i64 mr, .int .i64 mz, .int .i64 lv, .bool eg, .bool st, .int .i64 su, .bool bl, .int .i64 pg, .int .i64 ps] := he.facts 28
  have HK1 := Lib.hid (Bs.mix HW.out he.only hb9)
  clear he hb9 HW HC hβ
  --#T3
  repeat go_step
  refine bodyPost_ret (v := .agg #[.int .i64 r, .int .i64 c, .int .u8 rd, .bool kp, .bool wp, .bool og, .int .i64 a, .int .i64 b, .int .i64 cc, .int .i64 d, .int .i64 l, .int .i64 rr, .int .i64 s, .int .i64 pt, .int .i64 pl, .int .i64 pb, .int .i64 pr, .int .i64 mt, .int .i64 ml, .int .i64 mb, .int .i64 mr, .int .i64 mz, .int .i64 lv, .bool eg, .bool st, .int .i64 su, .bool bl, .int .i64 pg, .int .i64 ps]) (results_cell_row rfl _ _ (w.heap.size + 1) 33 #[.int .i64 r, .int .i64 c, .int .u8 rd, .bool kp, .bool wp, .bool og, .int .i64 a, .int .i64 b, .int .i64 cc, .int .i64 d, .int .i64 l, .int .i64 rr, .int .i64 s, .int .i64 pt, .int .i64 pl, .int .i64 pb, .int .i64 pr, .int .i64 mt, .int .i64 ml, .int .i64 mb, .int .i64 mr, .int .i64 mz, .int .i64 lv, .bool eg, .bool st, .int .i64 su, .bool bl, .int .i64 pg, .int .i64 ps] (0, 0) _ rfl HK1.out.b0 under_cr rfl info_cr) rfl ⟨rfl, HK1.out.bel⟩
def smC (x : Co) : Bool := decide (x.m < 2 ^ 32) && (decide (x.f.pb ≤ 60000) && decide (x.f.pr ≤ 60000))
theorem Bs.ne01 {w W : World} {b b' : Nat} {T T' : TypeId} {cs cs' : Array Value} {l : List (Nat × TypeId × Array Value)} (h : Bs w ((b, T, cs) :: (b', T', cs') :: l) W) : b ≠ b' :=
  (List.pairwise_cons.1 h.2.1).1 (b', T', cs') (by simp)
def newP (rows cols pages : Int) : Co := ⟨0, 0, false, newK, ⟨0, 0, max rows 0, max cols 0, 0, 0, max rows 0, max cols 0⟩, 2948, 5, false, false, 0, false, 0, pages⟩
set_option maxRecDepth 100000 in
set_option maxHeartbeats 8000000 in
theorem coNew_any (rows cols pages : Int) (w : World) (ht : Mods w) : Calls Tryz.prog 21 #[.int .i64 rows, .int .i64 cols, .int .i64 pages] w fun e w' => e = .returned (coV .u32 (newP rows cols pages)) ∧ Below w.heap.size w w' := by
  have HWh := Lib.hid (fun V => whole_any rows cols V)
  have HN := Lib.hid (fun V => cursNew_any V)
  have HM := Lib.hid (fun V t => mbegin_any V t)
  have HT := Lib.hid ht
  have ho := co_one .u32 (newP rows cols pages)
  have HS := Lib.hid ((Bs.nil w).alloc 45 (zO .u32))
  unfold coV newP uV bV newK at *
  simp only [coC, show ((2948 : Nat) : Int) = 2948 from rfl] at *
  generalize max rows 0 = H at *
  generalize max cols 0 = W at *
  clear ht
  go_enter Tryz.func21, Tryz.ntmps21
  go_wp2_with fail
  refine (HWh.out _).mono ?_
  rintro e w1 ⟨rfl, hb⟩
  have HK := Lib.hid (HS.out.next hb)
  clear hb HS
  go_upto_region 2 with fail
  have HK2 := Lib.hid (HK.out.alloc 29 #[.int .i64 0, .int .i64 0, .int .i64 H, .int .i64 W])
  obtain ⟨b2, hb2⟩ : ∃ b2, b2 = w1.heap.size := ⟨_, rfl⟩
  rw [← hb2] at HK2 ⊢
  refine world_gen (fun V => Bs w [(b2, 29, #[.int .i64 0, .int .i64 0, .int .i64 H, .int .i64 W]), (w.heap.size, 45, zO .u32)] V) HK2.out ?_
  intro V0 HV
  have HW := Lib.hid HV.sw1
  have hne : b2 ≠ w.heap.size := HV.ne01
  have HC := Lib.hid (fun w' (h : Only [w.heap.size] V0 w') => blk4 (h.blk HW.out.b1 (by simp only [List.mem_singleton]; exact hne)))
  clear HV HK2 HK hb2 hne
  --#coNew_any1
  refine wp_region_mix_lit (by kernel_rfl) [(0, .call (.agg #[.int .i64 0, .int .i64 0, .int .u8 0, .bool false, .bool false, .bool false, .int .i64 1, .int .i64 1, .int .i64 4, .int .i64 4, .int .i64 0, .int .i64 2, .int .i64 0])), (4, .call (.int .u32 2948)), (7, .store (w.heap.size) 45 (zO .u32) (fun _ => #[.int .i64 0, .int .i64 0, .int .u8 0, .bool false, .bool false, .bool false, .int .i64 1, .int .i64 1, .int .i64 4, .int .i64 4, .int .i64 0, .int .i64 2, .int .i64 0, .int .i64 0, .int .i64 0, .int .i64 H, .int .i64 W, .int .i64 0, .int .i64 0, .int .i64 H, .int .i64 W, .int .u32 2948, .int .i64 5, .bool false, .bool false, .int .i64 0, .bool false, .int .i64 0, .int .i64 pages]))] (by kernel_rfl) (by kernel_rfl) (by kernel_rfl) (by rfl) (by simp [apartK] <;> omega) (by simp [startK]; exact HW.out.b0) (by simp [stabK]) (⟨fun _ => undef, by simp [okK]⟩) (fun β hβ => ?_)
  refine lex_call (f := 60) (args := ?_) rfl rfl (fun w' hf => ?_) (fun w' hf => ?_) ?_
  rotate_left
  · go_simp
    try rfl
  · exact HN.out w'
  try simp only [Act.put, List.setIfInBounds_toArray, List.set_cons_zero, List.set_cons_succ]
  repeat (
    refine lex_val (v := ?_) rfl rfl (fun w' hf => ?_) ?_
    rotate_left
    · obtain ⟨c0, c1, c2, c3, _⟩ := HC.out w' hf.only; go_simp
      try rfl
    try simp only [Act.put, List.setIfInBounds_toArray, List.set_cons_zero, List.set_cons_succ])
  refine lex_call (f := 61) (args := ?_) rfl rfl (fun w' hf => ?_) (fun w' hf => ?_) ?_
  rotate_left
  · go_simp
    try rfl
  · exact HM.out w' (HT.out.next (HW.out.bel.trans ((show Only [w.heap.size] V0 w' from hf.only).below HW.out.bel.size (fun j hj => by simp only [List.mem_singleton] at hj; omega))))
  try simp only [Act.put, List.setIfInBounds_toArray, List.set_cons_zero, List.set_cons_succ]
  repeat (
    refine lex_val (v := ?_) rfl rfl (fun w' hf => ?_) ?_
    rotate_left
    · obtain ⟨c0, c1, c2, c3, _⟩ := HC.out w' hf.only; go_simp
      try rfl
    try simp only [Act.put, List.setIfInBounds_toArray, List.set_cons_zero, List.set_cons_succ])
  refine lex_store rfl rfl (fun w' hf hB => ⟨_, exec_store_row 45 (.tmp 6) (.tmp 17) rfl rfl rfl hB info_co rfl ho, row_repl hB _⟩) ?_
  try simp only [Act.put]
  refine lex_nil fun w1 he => ?_
  have hb9 : Blk w1 (w.heap.size) 45 #[.int .i64 0, .int .i64 0, .int .u8 0, .bool false, .bool false, .bool false, .int .i64 1, .int .i64 1, .int .i64 4, .int .i64 4, .int .i64 0, .int .i64 2, .int .i64 0, .int .i64 0, .int .i64 0, .int .i64 H, .int .i64 W, .int .i64 0, .int .i64 0, .int .i64 H, .int .i64 W, .int .u32 2948, .int .i64 5, .bool false, .bool false, .int .i64 0, .bool false, .int .i64 0, .int .i64 pages] := he.facts 7
  have HK1 := Lib.hid (Bs.mix HW.out he.only hb9)
  clear he hb9 HW HC hβ
  repeat go_step
  refine bodyPost_ret (v := .agg #[.int .i64 0, .int .i64 0, .int .u8 0, .bool false, .bool false, .bool false, .int .i64 1, .int .i64 1, .int .i64 4, .int .i64 4, .int .i64 0, .int .i64 2, .int .i64 0, .int .i64 0, .int .i64 0, .int .i64 H, .int .i64 W, .int .i64 0, .int .i64 0, .int .i64 H, .int .i64 W, .int .u32 2948, .int .i64 5, .bool false, .bool false, .int .i64 0, .bool false, .int .i64 0, .int .i64 pages]) (results_cell_row rfl _ _ w.heap.size 45 #[.int .i64 0, .int .i64 0, .int .u8 0, .bool false, .bool false, .bool false, .int .i64 1, .int .i64 1, .int .i64 4, .int .i64 4, .int .i64 0, .int .i64 2, .int .i64 0, .int .i64 0, .int .i64 0, .int .i64 H, .int .i64 W, .int .i64 0, .int .i64 0, .int .i64 H, .int .i64 W, .int .u32 2948, .int .i64 5, .bool false, .bool false, .int .i64 0, .bool false, .int .i64 0, .int .i64 pages] (0, 0) _ rfl HK1.out.b0 under_co rfl info_co) rfl ⟨rfl, HK1.out.bel⟩

end Go.Proofs.YtfnamfkjbkhgeaaGreatDoor

namespace Go.Proofs.YtfnamfkjbkhgeaaGreatDoor

open Go Go.RowKit

/-- A core as it came in: the modes may be anything. -/
def coZ (x : Co) (mz : Int) : Array Value := #[.int .i64 x.r, .int .i64 x.c, .int .u8 x.K.rd, .bool x.K.kp, .bool x.wp, .bool x.K.og, .int .i64 x.K.a, .int .i64 x.K.b, .int .i64 x.K.c, .int .i64 x.K.d, .int .i64 x.K.l, .int .i64 x.K.r, .int .i64 x.K.s, .int .i64 x.f.pt, .int .i64 x.f.pl, .int .i64 x.f.pb, .int .i64 x.f.pr, .int .i64 x.f.mt, .int .i64 x.f.ml, .int .i64 x.f.mb, .int .i64 x.f.mr, .int .i64 mz, .int .i64 x.lv, .bool x.eg, .bool x.st, .int .i64 x.su, .bool x.bl, .int .i64 x.pg, .int .i64 x.ps]
def smK (f : Fr) (mz : Int) : Bool := decide (0 ≤ mz) && (decide (mz < 4294967296) && (decide (f.pb ≤ 60000) && decide (f.pr ≤ 60000)))
set_option maxRecDepth 100000 in
set_option maxHeartbeats 8000000 in
theorem sSmall_any (x : Co) (mz : Int) (w : World) : Calls Tryz.prog 7 #[.agg (coZ x mz)] w fun e w' => e = .returned (.bool (smK x.f mz)) ∧ Below w.heap.size w w' := by
  unfold smK
  rcases h1 : decide (0 ≤ mz) with _ | _
  · unfold coZ
    go_enter Tryz.func7, Tryz.ntmps7
    go_wp2_with fail
    go_ret
    exact ⟨rfl, (Below.refl _ _).alloc (Nat.le_refl _) _⟩
  · rcases h2 : decide (mz < 4294967296) with _ | _
    · unfold coZ
      go_enter Tryz.func7, Tryz.ntmps7
      go_wp2_with fail
      go_ret
      exact ⟨rfl, (Below.refl _ _).alloc (Nat.le_refl _) _⟩
    · rcases h3 : decide (x.f.pb ≤ 60000) with _ | _
      · unfold coZ
        go_enter Tryz.func7, Tryz.ntmps7
        go_wp2_with fail
        go_ret
        exact ⟨rfl, (Below.refl _ _).alloc (Nat.le_refl _) _⟩
      · rcases h4 : decide (x.f.pr ≤ 60000) with _ | _
        all_goals
          unfold coZ
          go_enter Tryz.func7, Tryz.ntmps7
          go_wp2_with fail
          go_ret
          exact ⟨rfl, (Below.refl _ _).alloc (Nat.le_refl _) _⟩
def flgP (wp og : Bool) (s : Int) : Nat := (og.toNat + wp.toNat * 8) + (if s = 2 then 2 else if s = 3 then 4 else 0)
theorem flg_or : ∀ (a b : Bool), bits .or .i64 (a.toNat : Int) ((b.toNat : Int) * 8) = (a.toNat : Int) + (b.toNat : Int) * 8 ∧ bits .or .i64 ((a.toNat : Int) + (b.toNat : Int) * 8) 2 = (a.toNat : Int) + (b.toNat : Int) * 8 + 2 ∧ bits .or .i64 ((a.toNat : Int) + (b.toNat : Int) * 8) 4 = (a.toNat : Int) + (b.toNat : Int) * 8 + 4 := by decide +kernel
set_option maxRecDepth 100000 in
set_option maxHeartbeats 8000000 in
theorem flags_any (r c : Int) (wp : Bool) (K : CK) (w : World) : Calls Tryz.prog 29 #[uV r c wp K] w fun e w' => e = .returned (.int .i64 (flgP wp K.og K.s : Nat)) ∧ Below w.heap.size w w' := by
  have HB := Lib.hid (fun b V => bit_any b V)
  have hs : (K.s = 2 ∧ (flgP wp K.og K.s : Int) = (K.og.toNat : Int) + (wp.toNat : Int) * 8 + 2) ∨ (K.s = 3 ∧ (flgP wp K.og K.s : Int) = (K.og.toNat : Int) + (wp.toNat : Int) * 8 + 4) ∨ ((K.s == 2) = false ∧ (K.s == 3) = false ∧ (flgP wp K.og K.s : Int) = (K.og.toNat : Int) + (wp.toNat : Int) * 8) := by
    unfold flgP
    by_cases h2 : K.s = 2
    · left; simp [h2]
    · by_cases h3 : K.s = 3
      · right; left; simp [h3]
      · right; right; simp [h2, h3]
  obtain ⟨o1, o2, o3⟩ := flg_or K.og wp
  have hbo : (K.og.toNat : Int) ≤ 1 := by cases K.og <;> decide
  have hbw : (wp.toNat : Int) ≤ 1 := by cases wp <;> decide
  generalize (flgP wp K.og K.s : Int) = out at *
  obtain ⟨rd, kp, og, a, b, cc, d, l, rr, s⟩ := K
  unfold uV
  simp only at *
  generalize hq1 : (og.toNat : Int) = u at *
  generalize hq2 : (wp.toNat : Int) = v at *
  have HB1 := Lib.hid (fun V => bit_any og V); have HB2 := Lib.hid (fun V => bit_any wp V)
  rw [hq1] at HB1
  rw [hq2] at HB2
  have hu0 : 0 ≤ u := by omega
  have hv0 : 0 ≤ v := by omega
  have hw1 : IntKind.i64.wrap u = u := IntWalk.i64_in _ (by omega)
  have hw2 : IntKind.i64.wrap (v * 8) = v * 8 := IntWalk.i64_in _ (by omega)
  clear hq1 hq2 HB
  have hHS := Lib.hid ((Below.refl w.heap.size w).alloc (Nat.le_refl _) (.cells #[.int .i64 r, .int .i64 c, .int .u8 rd, .bool kp, .bool wp, .bool og, .int .i64 a, .int .i64 b, .int .i64 cc, .int .i64 d, .int .i64 l, .int .i64 rr, .int .i64 s] 40))
  rcases hs with ⟨rfl, rfl⟩ | ⟨rfl, rfl⟩ | ⟨g2, g3, rfl⟩
  · skip
    go_enter Tryz.func29, Tryz.ntmps29
    go_upto_region 1 with fail
    have hbl := (Blk.new w 40 #[.int .i64 r, .int .i64 c, .int .u8 rd, .bool kp, .bool wp, .bool og, .int .i64 a, .int .i64 b, .int .i64 cc, .int .i64 d, .int .i64 l, .int .i64 rr, .int .i64 2])
    refine world_gen (fun V => Below w.heap.size w V ∧ Blk V w.heap.size 40 #[.int .i64 r, .int .i64 c, .int .u8 rd, .bool kp, .bool wp, .bool og, .int .i64 a, .int .i64 b, .int .i64 cc, .int .i64 d, .int .i64 l, .int .i64 rr, .int .i64 2]) ⟨hHS.out, hbl⟩ ?_
    intro V0 HV
    replace HV := Lib.hid HV
    have HC := Lib.hid (fun w' (h : Only [] V0 w') => cur13 (h.blk HV.out.2 (by simp)))
    clear hHS hbl
    refine wp_region_mix_lit (by kernel_rfl) [(2, .call (.int .i64 u)), (6, .call (.int .i64 v))] (by kernel_rfl) (by kernel_rfl) (by kernel_rfl) (by rfl) (by simp [apartK] <;> omega) (by simp [startK]) (by simp [stabK]) (⟨fun _ => undef, by simp [okK]⟩) (fun β hβ => ?_)
    repeat (
      refine lex_val (v := ?_) rfl rfl (fun w' hf => ?_) ?_
      rotate_left
      · obtain ⟨c0, c1, c2, c3, c4, c5, c6, c7, c8, c9, c10, c11, c12⟩ := HC.out w' hf.only; go_simp
        try rfl
      try simp only [Act.put, List.setIfInBounds_toArray, List.set_cons_zero, List.set_cons_succ])
    refine lex_call (f := 28) (args := ?_) rfl rfl (fun w' hf => ?_) (fun w' hf => ?_) ?_
    rotate_left
    · go_simp
      try rfl
    · exact (HB1.out w').mono (by rintro e w'' ⟨rfl, rfl⟩; exact ⟨rfl, Below.refl _ _⟩)
    try simp only [Act.put, List.setIfInBounds_toArray, List.set_cons_zero, List.set_cons_succ]
    repeat (
      refine lex_val (v := ?_) rfl rfl (fun w' hf => ?_) ?_
      rotate_left
      · obtain ⟨c0, c1, c2, c3, c4, c5, c6, c7, c8, c9, c10, c11, c12⟩ := HC.out w' hf.only; go_simp
        try rfl
      try simp only [Act.put, List.setIfInBounds_toArray, List.set_cons_zero, List.set_cons_succ])
    refine lex_call (f := 28) (args := ?_) rfl rfl (fun w' hf => ?_) (fun w' hf => ?_) ?_
    rotate_left
    · go_simp
      try rfl
    · exact (HB2.out w').mono (by rintro e w'' ⟨rfl, rfl⟩; exact ⟨rfl, Below.refl _ _⟩)
    try simp only [Act.put, List.setIfInBounds_toArray, List.set_cons_zero, List.set_cons_succ]
    repeat (
      refine lex_val (v := ?_) rfl rfl (fun w' hf => ?_) ?_
      rotate_left
      · go_simp
        try rfl
      try simp only [Act.put, List.setIfInBounds_toArray, List.set_cons_zero, List.set_cons_succ])
    refine lex_nil fun w' he => ?_
    --#2
    obtain ⟨c0, c1, c2, c3, c4, c5, c6, c7, c8, c9, c10, c11, c12⟩ := HC.out w' he.only
    have hbe := Lib.hid (HV.out.1.trans (he.only.below0.mono HV.out.1.size))
    clear he HC HB1 HB2 HV
    go_wp2_with fail
    go_ret
    exact ⟨rfl, hbe.out⟩
  · skip
    go_enter Tryz.func29, Tryz.ntmps29
    go_upto_region 1 with fail
    have hbl := (Blk.new w 40 #[.int .i64 r, .int .i64 c, .int .u8 rd, .bool kp, .bool wp, .bool og, .int .i64 a, .int .i64 b, .int .i64 cc, .int .i64 d, .int .i64 l, .int .i64 rr, .int .i64 3])
    refine world_gen (fun V => Below w.heap.size w V ∧ Blk V w.heap.size 40 #[.int .i64 r, .int .i64 c, .int .u8 rd, .bool kp, .bool wp, .bool og, .int .i64 a, .int .i64 b, .int .i64 cc, .int .i64 d, .int .i64 l, .int .i64 rr, .int .i64 3]) ⟨hHS.out, hbl⟩ ?_
    intro V0 HV
    replace HV := Lib.hid HV
    have HC := Lib.hid (fun w' (h : Only [] V0 w') => cur13 (h.blk HV.out.2 (by simp)))
    clear hHS hbl
    refine wp_region_mix_lit (by kernel_rfl) [(2, .call (.int .i64 u)), (6, .call (.int .i64 v))] (by kernel_rfl) (by kernel_rfl) (by kernel_rfl) (by rfl) (by simp [apartK] <;> omega) (by simp [startK]) (by simp [stabK]) (⟨fun _ => undef, by simp [okK]⟩) (fun β hβ => ?_)
    repeat (
      refine lex_val (v := ?_) rfl rfl (fun w' hf => ?_) ?_
      rotate_left
      · obtain ⟨c0, c1, c2, c3, c4, c5, c6, c7, c8, c9, c10, c11, c12⟩ := HC.out w' hf.only; go_simp
        try rfl
      try simp only [Act.put, List.setIfInBounds_toArray, List.set_cons_zero, List.set_cons_succ])
    refine lex_call (f := 28) (args := ?_) rfl rfl (fun w' hf => ?_) (fun w' hf => ?_) ?_
    rotate_left
    · go_simp
      try rfl
    · exact (HB1.out w').mono (by rintro e w'' ⟨rfl, rfl⟩; exact ⟨rfl, Below.refl _ _⟩)
    try simp only [Act.put, List.setIfInBounds_toArray, List.set_cons_zero, List.set_cons_succ]
    repeat (
      refine lex_val (v := ?_) rfl rfl (fun w' hf => ?_) ?_
      rotate_left
      · obtain ⟨c0, c1, c2, c3, c4, c5, c6, c7, c8, c9, c10, c11, c12⟩ := HC.out w' hf.only; go_simp
        try rfl
      try simp only [Act.put, List.setIfInBounds_toArray, List.set_cons_zero, List.set_cons_succ])
    refine lex_call (f := 28) (args := ?_) rfl rfl (fun w' hf => ?_) (fun w' hf => ?_) ?_
    rotate_left
    · go_simp
      try rfl
    · exact (HB2.out w').mono (by rintro e w'' ⟨rfl, rfl⟩; exact ⟨rfl, Below.refl _ _⟩)
    try simp only [Act.put, List.setIfInBounds_toArray, List.set_cons_zero, List.set_cons_succ]
    repeat (
      refine lex_val (v := ?_) rfl rfl (fun w' hf => ?_) ?_
      rotate_left
      · go_simp
        try rfl
      try simp only [Act.put, List.setIfInBounds_toArray, List.set_cons_zero, List.set_cons_succ])
    refine lex_nil fun w' he => ?_
    --#2
    obtain ⟨c0, c1, c2, c3, c4, c5, c6, c7, c8, c9, c10, c11, c12⟩ := HC.out w' he.only
    have hbe := Lib.hid (HV.out.1.trans (he.only.below0.mono HV.out.1.size))
    clear he HC HB1 HB2 HV
    go_wp2_with fail
    go_ret
    exact ⟨rfl, hbe.out⟩
  · skip
    go_enter Tryz.func29, Tryz.ntmps29
    go_upto_region 1 with fail
    have hbl := (Blk.new w 40 #[.int .i64 r, .int .i64 c, .int .u8 rd, .bool kp, .bool wp, .bool og, .int .i64 a, .int .i64 b, .int .i64 cc, .int .i64 d, .int .i64 l, .int .i64 rr, .int .i64 s])
    refine world_gen (fun V => Below w.heap.size w V ∧ Blk V w.heap.size 40 #[.int .i64 r, .int .i64 c, .int .u8 rd, .bool kp, .bool wp, .bool og, .int .i64 a, .int .i64 b, .int .i64 cc, .int .i64 d, .int .i64 l, .int .i64 rr, .int .i64 s]) ⟨hHS.out, hbl⟩ ?_
    intro V0 HV
    replace HV := Lib.hid HV
    have HC := Lib.hid (fun w' (h : Only [] V0 w') => cur13 (h.blk HV.out.2 (by simp)))
    clear hHS hbl
    refine wp_region_mix_lit (by kernel_rfl) [(2, .call (.int .i64 u)), (6, .call (.int .i64 v))] (by kernel_rfl) (by kernel_rfl) (by kernel_rfl) (by rfl) (by simp [apartK] <;> omega) (by simp [startK]) (by simp [stabK]) (⟨fun _ => undef, by simp [okK]⟩) (fun β hβ => ?_)
    repeat (
      refine lex_val (v := ?_) rfl rfl (fun w' hf => ?_) ?_
      rotate_left
      · obtain ⟨c0, c1, c2, c3, c4, c5, c6, c7, c8, c9, c10, c11, c12⟩ := HC.out w' hf.only; go_simp
        try rfl
      try simp only [Act.put, List.setIfInBounds_toArray, List.set_cons_zero, List.set_cons_succ])
    refine lex_call (f := 28) (args := ?_) rfl rfl (fun w' hf => ?_) (fun w' hf => ?_) ?_
    rotate_left
    · go_simp
      try rfl
    · exact (HB1.out w').mono (by rintro e w'' ⟨rfl, rfl⟩; exact ⟨rfl, Below.refl _ _⟩)
    try simp only [Act.put, List.setIfInBounds_toArray, List.set_cons_zero, List.set_cons_succ]
    repeat (
      refine lex_val (v := ?_) rfl rfl (fun w' hf => ?_) ?_
      rotate_left
      · obtain ⟨c0, c1, c2, c3, c4, c5, c6, c7, c8, c9, c10, c11, c12⟩ := HC.out w' hf.only; go_simp
        try rfl
      try simp only [Act.put, List.setIfInBounds_toArray, List.set_cons_zero, List.set_cons_succ])
    refine lex_call (f := 28) (args := ?_) rfl rfl (fun w' hf => ?_) (fun w' hf => ?_) ?_
    rotate_left
    · go_simp
      try rfl
    · exact (HB2.out w').mono (by rintro e w'' ⟨rfl, rfl⟩; exact ⟨rfl, Below.refl _ _⟩)
    try simp only [Act.put, List.setIfInBounds_toArray, List.set_cons_zero, List.set_cons_succ]
    repeat (
      refine lex_val (v := ?_) rfl rfl (fun w' hf => ?_) ?_
      rotate_left
      · go_simp
        try rfl
      try simp only [Act.put, List.setIfInBounds_toArray, List.set_cons_zero, List.set_cons_succ])
    refine lex_nil fun w' he => ?_
    --#2
    obtain ⟨c0, c1, c2, c3, c4, c5, c6, c7, c8, c9, c10, c11, c12⟩ := HC.out w' he.only
    have hbe := Lib.hid (HV.out.1.trans (he.only.below0.mono HV.out.1.size))
    clear he HC HB1 HB2 HV
    go_wp2_with fail
    go_ret
    exact ⟨rfl, hbe.out⟩
end Go.Proofs.YtfnamfkjbkhgeaaGreatDoor

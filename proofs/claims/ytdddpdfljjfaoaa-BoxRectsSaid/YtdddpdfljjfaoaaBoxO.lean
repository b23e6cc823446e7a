/-
  Boxes: boxes held against each other; numbers that are no greater than they need be; the fixed fact.
-/
import Derived.Test.YtdddpdfljjfaoaaBoxE
import Derived.Test.YtdddpdfljjfaoaaBoxG
import Derived.Test.YtdddpdfljjfaoaaBoxI
import Derived.Laws.StructEq
namespace Go.Proofs.Ytdddpdfljjfaoaa
open Go Go.RowKit

def eqB4 (t l b r t' l' b' r' : Int) : Bool := t == t' && (l == l' && (b == b' && r == r'))
def eqB2 (p q p' q' : Int) : Bool := p == p' && q == q'
theorem stood_box : Try.prog.stoodInHeld 23 = false := by kernel_rfl
theorem guard_box : Try.prog.eqGuardType Try.prog.depth 23 = false := by kernel_rfl
theorem fields_box : (Try.prog.fieldsOf 23).toList.map (fun f => (f.name != "_", f.type, f.offset)) = [(true, 3, 0), (true, 3, 1), (true, 3, 2), (true, 3, 3)] := by kernel_rfl
theorem under_box : Try.prog.underlying 23 = some (.struct (Try.prog.fieldsOf 23)) := by kernel_rfl
theorem part_int (W : World) (xs : Array Value) (i : Nat) (v : Value) (h : xs[i]? = some v) : (part 3 xs i).run Try.prog W = .ok v W := by
  simp [part, h]
theorem equal_box (W : World) (t l b r t' l' b' r' : Int) : (Op.equalIn 10000 23 (.agg (bC t l b r)) (.agg (bC t' l' b' r'))).run Try.prog W = .ok (eqB4 t l b r t' l' b' r') W := by
  rw [show (10000 : Nat) = 9998 + 1 + 1 from rfl]
  generalize 9998 = m
  rw [run_equalIn_struct W (m + 1) 23 _ _ under_box stood_box]
  obtain ⟨fs, hfs⟩ : ∃ fs, (Try.prog.fieldsOf 23).toList = fs := ⟨_, rfl⟩
  have hf := fields_box
  rw [hfs] at hf ⊢
  match fs, hf with
  | [f0, f1, f2, f3], hf =>
    simp only [List.map_cons, List.map_nil, List.cons.injEq, Prod.mk.injEq, bne_iff_ne, and_true] at hf
    obtain ⟨⟨n0, t0, o0⟩, ⟨n1, t1, o1⟩, ⟨n2, t2, o2⟩, ⟨n3, t3, o3⟩⟩ := hf
    have P := fun (xs : Array Value) i v h => part_int W xs i v h
    have E : ∀ a b : Int, (Op.equalIn (m + 1) 3 (.int .i64 a) (.int .i64 b)).run Try.prog W = .ok (a == b) W := fun a b => run_equalIn_int W m 3 .i64 .i64 a b Try.underlying3
    unfold eqB4
    simp only [Op.eqFields, t0, t1, t2, t3, o0, o1, o2, o3, n0, n1, n2, n3, ne_eq, not_false_eq_true, if_true, Sem.run_bind,
      P (bC t l b r) 0 (.int .i64 t) rfl, P (bC t l b r) 1 (.int .i64 l) rfl, P (bC t l b r) 2 (.int .i64 b) rfl, P (bC t l b r) 3 (.int .i64 r) rfl,
      P (bC t' l' b' r') 0 (.int .i64 t') rfl, P (bC t' l' b' r') 1 (.int .i64 l') rfl, P (bC t' l' b' r') 2 (.int .i64 b') rfl, P (bC t' l' b' r') 3 (.int .i64 r') rfl,
      Result.andThen_ok, E, Sem.run_ite, Sem.run_pure]
    by_cases e0 : t = t'
    · by_cases e1 : l = l'
      · by_cases e2 : b = b'
        · by_cases e3 : r = r'
          · subst e0 e1 e2 e3; simp
          · subst e0 e1 e2; simp [e3]
        · subst e0 e1; simp [e2]
      · subst e0; simp [e1]
    · simp [e0]
theorem eql_box (W : World) (t l b r t' l' b' r' : Int) : (binOp .eql 23 (.agg (bC t l b r)) (.agg (bC t' l' b' r'))).run Try.prog W = .ok (.bool (eqB4 t l b r t' l' b' r')) W := by
  rw [run_eql_struct, equal_box]; rfl
theorem neq_box (W : World) (t l b r t' l' b' r' : Int) : (binOp .neq 23 (.agg (bC t l b r)) (.agg (bC t' l' b' r'))).run Try.prog W = .ok (.bool (!eqB4 t l b r t' l' b' r')) W := by
  rw [run_neq_struct, equal_box]; rfl
theorem guard_box' (W : World) (op : BinOp) (x y : Operand) (xs ys : Array Value) : (eqGuard op 23 x y (.agg xs) (.agg ys)).run Try.prog W = .ok () W := run_eqGuard_agg W op _ x y _ _ guard_box

theorem stood_pos : Try.prog.stoodInHeld 25 = false := by kernel_rfl
theorem guard_pos : Try.prog.eqGuardType Try.prog.depth 25 = false := by kernel_rfl
theorem fields_pos : (Try.prog.fieldsOf 25).toList.map (fun f => (f.name != "_", f.type, f.offset)) = [(true, 3, 0), (true, 3, 1)] := by kernel_rfl
theorem under_pos : Try.prog.underlying 25 = some (.struct (Try.prog.fieldsOf 25)) := by kernel_rfl
theorem equal_pos (W : World) (p q p' q' : Int) : (Op.equalIn 10000 25 (.agg (sC p q)) (.agg (sC p' q'))).run Try.prog W = .ok (eqB2 p q p' q') W := by
  rw [show (10000 : Nat) = 9998 + 1 + 1 from rfl]
  generalize 9998 = m
  rw [run_equalIn_struct W (m + 1) 25 _ _ under_pos stood_pos]
  obtain ⟨fs, hfs⟩ : ∃ fs, (Try.prog.fieldsOf 25).toList = fs := ⟨_, rfl⟩
  have hf := fields_pos
  rw [hfs] at hf ⊢
  match fs, hf with
  | [f0, f1], hf =>
    simp only [List.map_cons, List.map_nil, List.cons.injEq, Prod.mk.injEq, bne_iff_ne, and_true] at hf
    obtain ⟨⟨n0, t0, o0⟩, ⟨n1, t1, o1⟩⟩ := hf
    have P := fun (xs : Array Value) i v h => part_int W xs i v h
    have E : ∀ a b : Int, (Op.equalIn (m + 1) 3 (.int .i64 a) (.int .i64 b)).run Try.prog W = .ok (a == b) W := fun a b => run_equalIn_int W m 3 .i64 .i64 a b Try.underlying3
    unfold eqB2
    simp only [Op.eqFields, t0, t1, o0, o1, n0, n1, ne_eq, not_false_eq_true, if_true, Sem.run_bind,
      P (sC p q) 0 (.int .i64 p) rfl, P (sC p q) 1 (.int .i64 q) rfl, P (sC p' q') 0 (.int .i64 p') rfl, P (sC p' q') 1 (.int .i64 q') rfl,
      Result.andThen_ok, E, Sem.run_ite, Sem.run_pure]
    by_cases e0 : p = p'
    · by_cases e1 : q = q'
      · subst e0 e1; simp
      · subst e0; simp [e1]
    · simp [e0]
theorem eql_pos (W : World) (p q p' q' : Int) : (binOp .eql 25 (.agg (sC p q)) (.agg (sC p' q'))).run Try.prog W = .ok (.bool (eqB2 p q p' q')) W := by
  rw [run_eql_struct, equal_pos]; rfl
theorem neq_pos (W : World) (p q p' q' : Int) : (binOp .neq 25 (.agg (sC p q)) (.agg (sC p' q'))).run Try.prog W = .ok (.bool (!eqB2 p q p' q')) W := by
  rw [run_neq_struct, equal_pos]; rfl
theorem guard_pos' (W : World) (op : BinOp) (x y : Operand) (xs ys : Array Value) : (eqGuard op 25 x y (.agg xs) (.agg ys)).run Try.prog W = .ok () W := run_eqGuard_agg W op _ x y _ _ guard_pos

set_option maxHeartbeats 4000000 in
theorem awake5_any (w : World) :
    Calls Try.prog 10 #[] w fun e w' => e = .returned (.bool true) ∧ Below w.heap.size w w' := by
  have HS := Lib.hid (fun W => span_any 24 5 99 (by omega) (by omega) W)
  rw [show spanT 24 5 99 = (4, 24, true) from by decide +kernel] at HS
  have HR := Lib.hid (fun A c (hc : 4 ≤ c) W h => rect_any 2 3 8 9 (by unfold Sm; omega) (by unfold Sm; omega) (by unfold Sm; omega) (by unfold Sm; omega) A c [2, 1, 0, 99] (by simp) hc 0 W h)
  rw [show rectT 2 3 8 9 [2, 1, 0, 99] 0 = ((3, 3, 8, 9), true) from by decide +kernel] at HR
  have HW := Lib.hid (fun W => whole_any 2 (-1) W)
  rw [show max (2 : Int) 0 = 2 from by decide, show max (-1 : Int) 0 = 0 from by decide] at HW
  have HE : ∀ W, (binOp .eql 23 (.agg #[.int .i64 3, .int .i64 3, .int .i64 8, .int .i64 9]) (.agg #[.int .i64 3, .int .i64 3, .int .i64 8, .int .i64 9])).run Try.prog W = .ok (.bool true) W := fun W => eql_box W 3 3 8 9 3 3 8 9
  have HF : ∀ W, (binOp .eql 23 (.agg #[.int .i64 0, .int .i64 0, .int .i64 2, .int .i64 0]) (.agg #[.int .i64 0, .int .i64 0, .int .i64 2, .int .i64 0])).run Try.prog W = .ok (.bool true) W := fun W => eql_box W 0 0 2 0 0 0 2 0
  have HG := guard_box'
  unfold bV at *
  go_enter Try.func10, Try.ntmps10
  go_wp2_with fail
  refine (HS.out _).mono ?_
  rintro e w1 ⟨rfl, hb1⟩
  go_wp2_with fail
  have hb2 : Below w1.heap.size w1 (w1.alloc (.cells #[.int .i64 2, .int .i64 1, .int .i64 0, .int .i64 99] 3)) := (Below.refl _ _).alloc (Nat.le_refl _) _
  refine (HR.out (some ⟨w1.heap.size, 0, none⟩) 4 (by omega) _ (rints_new w1 3 [2, 1, 0, 99] #[.int .i64 2, .int .i64 1, .int .i64 0, .int .i64 99] rfl w1.heap.size rfl)).mono ?_
  rintro e w2 ⟨rfl, hb3⟩
  have HB2 := Lib.hid (bstep (bstep hb1 hb2) hb3)
  clear hb1 hb2 hb3
  go_wp2_with fail
  refine (HW.out _).mono ?_
  rintro e w3 ⟨rfl, hb4⟩
  have HB3 := Lib.hid (bstep (bstep HB2.out (new1 w2 _ _).2) hb4)
  clear hb4
  go_wp2_with fail
  go_ret
  exact ⟨rfl, HB3.out⟩
end Go.Proofs.Ytdddpdfljjfaoaa

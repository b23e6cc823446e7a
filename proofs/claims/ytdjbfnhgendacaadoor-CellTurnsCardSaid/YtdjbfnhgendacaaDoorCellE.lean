/-
  Rows that are cut and copied; the fixed fact that each statement on cells asks first.
-/
import Derived.Test.YtdjbfnhgendacaaDoorCellD
namespace Go.Proofs.YtdjbfnhgendacaaDoor
open Go.RowKit

theorem RCells.take {w : World} {A : Option Addr} {l : List Cl} (h : RCells w A l) (n : Nat) : RCells w A (l.take n) := by
  have hle : (l.take n).length ≤ l.length := by rw [List.length_take]; omega
  refine ⟨flat_len _, fun hn => ?_⟩
  obtain ⟨ad, e, hb, hc⟩ := h.2 (by omega)
  refine ⟨ad, e, hb, fun j u hu => hc j u ?_⟩
  rw [← hu]
  have e2 : l.flatMap Cl.cells = (l.take n).flatMap Cl.cells ++ (l.drop n).flatMap Cl.cells := by
    rw [← List.flatMap_append, List.take_append_drop]
  have hj : j < ((l.take n).flatMap Cl.cells).length := by
    rcases Nat.lt_or_ge j ((l.take n).flatMap Cl.cells).length with h | h
    · exact h
    · rw [List.getElem?_eq_none h] at hu; cases hu
  rw [e2, List.getElem?_append_left hj]

set_option maxHeartbeats 1000000 in
theorem cut_any (A : Option Addr) (c : Nat) (l : List Cl) (_ : l.length ≤ maxLen) (hc : l.length ≤ c) (n : Nat) (hn : n ≤ 100000) (w : World) :
    Calls Tryd.prog 35 #[.slice A l.length c, .int .i64 n] w fun e w' => e = .returned (.slice A (l.take n).length c) ∧ Below w.heap.size w w' := by
  by_cases h : n < l.length
  · have hlen : (l.take n).length = n := by rw [List.length_take]; omega
    rw [hlen]
    have hgt : decide ((n : Int) < l.length) = true := by simp; omega
    generalize l.length = m at *
    go_enter Tryd.func35, Tryd.ntmps35
    go_wp2
    go_ret
    exact ⟨rfl, Below.refl _ _⟩
  · have hlen : l.take n = l := List.take_of_length_le (by omega)
    rw [hlen]
    generalize l.length = m at *
    go_enter Tryd.func35, Tryd.ntmps35
    go_wp2
    go_ret
    exact ⟨rfl, Below.refl _ _⟩

/-- Two cells held against each other. -/
theorem stood44 : Tryd.prog.stoodInHeld 44 = false := by kernel_rfl
theorem guard44 : Tryd.prog.eqGuardType Tryd.prog.depth 44 = false := by kernel_rfl
theorem fields44 : (Tryd.prog.fieldsOf 44).toList.map (fun f => (f.name != "_", f.type, f.offset)) = [(true, 21, 0), (true, 22, 1), (true, 4, 2)] := by kernel_rfl
theorem under44 : Tryd.prog.underlying 44 = some (.struct (Tryd.prog.fieldsOf 44)) := by kernel_rfl
theorem part_one (t : TypeId) (ht : t = 21 ∨ t = 22 ∨ t = 4) (W : World) (xs : Array Value) (i : Nat) (v : Value) (h : xs[i]? = some v) : (part t xs i).run Tryd.prog W = .ok v W := by
  rcases ht with rfl | rfl | rfl <;> simp [part, h]
def Cl.beq (x y : Cl) : Bool := x.g == y.g && (x.r == y.r && x.k == y.k)
theorem Cl.beq_iff (x y : Cl) : x.beq y = true ↔ x = y := by
  obtain ⟨a, b, c⟩ := x
  obtain ⟨a', b', c'⟩ := y
  simp [Cl.beq]
theorem eqIn_cells (W : World) (m : Nat) (a a' b b' : Int) (c c' : Bool) : (Op.equalIn (m + 2) 44 (.agg #[.int .i32 a, .int .u8 b, .bool c]) (.agg #[.int .i32 a', .int .u8 b', .bool c'])).run Tryd.prog W = .ok (Cl.beq ⟨a, b, c⟩ ⟨a', b', c'⟩) W := by
  rw [run_equalIn_struct W (m + 1) 44 _ _ under44 stood44]
  obtain ⟨fs, hfs⟩ : ∃ fs, (Tryd.prog.fieldsOf 44).toList = fs := ⟨_, rfl⟩
  have hf := fields44
  rw [hfs] at hf ⊢
  match fs, hf with
  | [f0, f1, f2], hf =>
    simp only [List.map_cons, List.map_nil, List.cons.injEq, Prod.mk.injEq, bne_iff_ne, and_true] at hf
    obtain ⟨⟨n0, t0, o0⟩, ⟨n1, t1, o1⟩, ⟨n2, t2, o2⟩⟩ := hf
    have p0 := part_one 21 (.inl rfl) W #[.int .i32 a, .int .u8 b, .bool c] 0 (.int .i32 a) rfl
    have p1 := part_one 22 (.inr (.inl rfl)) W #[.int .i32 a, .int .u8 b, .bool c] 1 (.int .u8 b) rfl
    have p2 := part_one 4 (.inr (.inr rfl)) W #[.int .i32 a, .int .u8 b, .bool c] 2 (.bool c) rfl
    have q0 := part_one 21 (.inl rfl) W #[.int .i32 a', .int .u8 b', .bool c'] 0 (.int .i32 a') rfl
    have q1 := part_one 22 (.inr (.inl rfl)) W #[.int .i32 a', .int .u8 b', .bool c'] 1 (.int .u8 b') rfl
    have q2 := part_one 4 (.inr (.inr rfl)) W #[.int .i32 a', .int .u8 b', .bool c'] 2 (.bool c') rfl
    have E0 : (Op.equalIn (m + 1) 21 (.int .i32 a) (.int .i32 a')).run Tryd.prog W = .ok (a == a') W := run_equalIn_int W m 21 .i32 .i32 a a' Tryd.underlying21
    have E1 : (Op.equalIn (m + 1) 22 (.int .u8 b) (.int .u8 b')).run Tryd.prog W = .ok (b == b') W := run_equalIn_int W m 22 .u8 .u8 b b' Tryd.underlying22
    have E2 : (Op.equalIn (m + 1) 4 (.bool c) (.bool c')).run Tryd.prog W = .ok (c == c') W := run_equalIn_bool' W m 4 c c' Tryd.underlying4
    simp only [Op.eqFields, t0, t1, t2, o0, o1, o2, n0, n1, n2, ne_eq, not_false_eq_true, if_true, Sem.run_bind, p0, p1, p2, q0, q1, q2, E0, E1, E2, Result.andThen_ok, Sem.run_ite, Sem.run_pure, Cl.beq]
    by_cases e0 : a = a'
    · by_cases e1 : b = b'
      · by_cases e2 : c = c'
        · subst e0 e1 e2; simp
        · subst e0 e1; simp [e2]
      · subst e0; simp [e1]
    · simp [e0]
theorem eql_cells (W : World) (x y : Cl) : (binOp .eql 44 x.val y.val).run Tryd.prog W = .ok (.bool (x.beq y)) W := by
  unfold Cl.val
  rw [run_eql_struct, show (10000 : Nat) = 9998 + 2 from rfl, eqIn_cells W 9998]
  rfl
theorem neq_cells (W : World) (x y : Cl) : (binOp .neq 44 x.val y.val).run Tryd.prog W = .ok (.bool (!x.beq y)) W := by
  unfold Cl.val
  rw [run_neq_struct, show (10000 : Nat) = 9998 + 2 from rfl, eqIn_cells W 9998]
  rfl
theorem guard_cells (op : BinOp) (W : World) (p q : Operand) (x y : Cl) : (eqGuard op 44 p q x.val y.val).run Tryd.prog W = .ok () W := run_eqGuard_agg W op _ p q _ _ guard44

set_option maxHeartbeats 1000000 in
theorem awake2_any (w : World) (ht : Tab w) : Calls Tryd.prog 31 #[] w fun e w' => e = .returned (.bool true) ∧ Below w.heap.size w w' := by
  have HW := Lib.hid (cellWeight_any 65 1 true (by omega))
  rw [show Cl.w ⟨65, 1, true⟩ = 197 from by decide +kernel] at HW
  have HE := Lib.hid (fun W => eql_cells W ⟨32, 0, false⟩ ⟨32, 0, false⟩)
  have HG := Lib.hid (fun W p q => guard_cells .eql W p q ⟨32, 0, false⟩ ⟨32, 0, false⟩)
  go_enter Tryd.func31, Tryd.ntmps31
  go_wp2_with fail
  refine (erased_any _).mono ?_
  rintro e w1 ⟨rfl, hb⟩
  go_wp2_with fail
  refine (refErased_any _).mono ?_
  rintro e w2 ⟨rfl, hb'⟩
  replace hb := hb.trans (hb'.mono hb.size); clear hb'
  have he := HE.out w2
  have hg := HG.out w2
  go_wp2_with fail
  refine (HW.out _ (ht.next hb)).mono ?_
  rintro e w3 ⟨rfl, hb'⟩
  replace hb := hb.trans (hb'.mono hb.size); clear hb'
  go_wp2_with fail
  go_ret
  exact ⟨rfl, hb⟩
end Go.Proofs.YtdjbfnhgendacaaDoor

/-
  What collects numbers, cleared, cloned, compared.
-/
import Derived.Test.YtcbhdkcgmkkjmaaDoorParD
import Derived.Laws.StructEq
import Derived.ChangeKeysEq
import Derived.Laws.Tables
import Derived.Deep.WholeRow
import Derived.Test.YtcbhdkcgmkkjmaaDoorMixE
import Derived.Test.YtcbhdkcgmkkjmaaDoorCuts
namespace Go.Proofs.YtcbhdkcgmkkjmaaDoor

open Go Go.RowKit

theorem accS (fs : List Int) : (accCells fs).size = 31 := by unfold accCells; simp [padF_len]
theorem info_acc : (Tryd.prog.info? 25).map (·.size) = some 31 := by kernel_rfl
theorem info_acc2 (fs : List Int) : (Tryd.prog.info? 25).map (·.size) = some (accCells fs).size := by rw [accS]; exact info_acc
theorem acc_cell1 (fs : List Int) : (accCells fs).all (·.oneCell') = true := by
  rw [acc_list, Array.all_eq_true_iff_forall_mem]
  intro v hv
  simp only [List.mem_toArray] at hv
  exact ints_one _ v hv
theorem accUnder : Tryd.prog.underlying 25 = some (.struct (Tryd.prog.fieldsOf 25)) := by kernel_rfl
theorem Acc.row {w : World} {g : Nat} {fs gs : List Int} (h : Acc w g fs) : Acc (w.setRow g (accCells gs)) g gs ∧ w.grownBy (w.setRow g (accCells gs)) (some g) :=
  ⟨setRow_heap w g _ _ _ _ h, ⟨rfl, rfl, rfl, by simp, fun k _ hk => setRow_other w g k _ (fun e => hk (by rw [e]))⟩⟩
theorem acc_zero : (Tryd.prog.built 25 []).getD #[] = accCells [] := by kernel_rfl
set_option maxHeartbeats 1000000 in
theorem clear_any (g : Nat) (fs : List Int) (w : World) (h : Acc w g fs) :
    Calls Tryd.prog 5 #[.pointer (some ⟨g, 0, none⟩)] w fun e w' => e = .returned (.tuple #[]) ∧ Acc w' g [] ∧ w.grownBy w' (some g) := by
  have HA := Lib.hid h
  have HR := Lib.hid (Acc.row (gs := []) h)
  clear h
  go_enter Tryd.func5, Tryd.ntmps5
  go_wp2_with (first | (refine wpList_build rfl _ _ rfl (by kernel_rfl) ?_; simp only [List.map_toArray, List.map_nil, acc_zero]) | (refine wpList_store_row rfl _ _ _ rfl g (accCells []) rfl rfl _ _ HA.out (info_acc2 []) (by rw [accS, accS]) (acc_cell1 []) ?_))
  go_end0
  exact ⟨rfl, HR.out.1, HR.out.2⟩
set_option maxHeartbeats 1000000 in
theorem clone_any (g : Nat) (fs : List Int) (w : World) (h : Acc w g fs) :
    Calls Tryd.prog 10 #[.pointer (some ⟨g, 0, none⟩)] w fun e w' => ∃ g2, e = .returned (.pointer (some ⟨g2, 0, none⟩)) ∧ w.heap.size ≤ g2 ∧ Acc w' g2 fs ∧ Below w.heap.size w w' := by
  have HA := Lib.hid h
  clear h
  go_enter Tryd.func10, Tryd.ntmps10
  go_wp2_with (first | (refine wpList_load_row rfl _ _ rfl g rfl _ (accCells fs) (0, 0) _ HA.out accUnder rfl (info_acc2 fs) ?_) | (refine wpList_store_row rfl _ _ _ rfl w.heap.size (accCells fs) rfl rfl _ _ (Blk.new _ _ _) (info_acc2 fs) (by rw [accS]; rfl) (acc_cell1 fs) ?_))
  go_ret
  rw [World.setRow_alloc_new]
  exact ⟨_, rfl, Nat.le_refl _, Blk.new _ _ _, (Below.refl _ _).alloc (Nat.le_refl _) _⟩

/-- Have both taken the same, as far as it shows? -/
def sameF (fs gs : List Int) : Bool := ((List.range 30).all fun i => (padF fs)[i]? == (padF gs)[i]?) && (((min fs.length 31 : Nat) : Int) == ((min gs.length 31 : Nat) : Int))
theorem sameF_self (fs : List Int) : sameF fs fs = true := by unfold sameF; simp
theorem sameF_take {fs gs : List Int} (h : sameF fs gs = true) : fs.take 30 = gs.take 30 := by
  unfold sameF at h
  simp only [Bool.and_eq_true, List.all_eq_true, List.mem_range, beq_iff_eq] at h
  obtain ⟨h1, h2⟩ := h
  have hl : (fs.take 30).length = (gs.take 30).length := by simp; omega
  apply List.ext_getElem? 
  intro i
  by_cases hi : i < (fs.take 30).length
  · have := h1 i (by simp at hi; omega)
    unfold padF at this
    rw [List.getElem?_append_left hi, List.getElem?_append_left (by omega)] at this
    exact this
  · rw [List.getElem?_eq_none (by omega), List.getElem?_eq_none (by omega)]
theorem accArr : Tryd.prog.underlying 23 = some (.array 30 3) := by kernel_rfl
theorem accInt1 : Tryd.prog.cellsOf 3 = 1 := by kernel_rfl
theorem accInfo : ∃ i, Tryd.prog.info? 3 = some i := by
  have h : (Tryd.prog.info? 3).isSome = true := by kernel_rfl
  exact Option.isSome_iff_exists.1 h
theorem accStood : Tryd.prog.stoodInHeld 25 = false := by kernel_rfl
theorem accGuard : Tryd.prog.eqGuardType Tryd.prog.depth 25 = false := by kernel_rfl
theorem accFields : (Tryd.prog.fieldsOf 25).toList.map (fun f => (f.name != "_", f.type, f.offset)) = [(true, 23, 0), (true, 3, 30)] := by kernel_rfl
theorem part_z (W : World) (xs : Array Value) (i : Nat) (v : Value) (h : xs[i]? = some v) : (part 3 xs i).run Tryd.prog W = .ok v W := by
  simp [part, h]
theorem eq_items (W : World) (m : Nat) (xs bs : List Int) : ∀ is : List Nat, (∀ i ∈ is, i < xs.length ∧ i < bs.length) →
    (Op.eqItems (m + 1) 3 1 (xs.map (Value.int .i64)).toArray (bs.map (Value.int .i64)).toArray is).run Tryd.prog W = .ok (is.all fun i => xs[i]? == bs[i]?) W
  | [], _ => rfl
  | i :: is, h => by
    obtain ⟨ha, hb⟩ := h i (by simp)
    have ih := eq_items W m xs bs is (fun j hj => h j (by simp [hj]))
    have pa := part_z W (xs.map (Value.int .i64)).toArray i (.int .i64 xs[i]) (by simp [ha])
    have pb := part_z W (bs.map (Value.int .i64)).toArray i (.int .i64 bs[i]) (by simp [hb])
    rw [List.all_cons, List.getElem?_eq_getElem ha, List.getElem?_eq_getElem hb]
    simp only [Op.eqItems, Nat.mul_one, Sem.run_bind, pa, pb, Result.andThen_ok, run_equalIn_int W m 3 .i64 .i64 xs[i] bs[i] Tryd.underlying3]
    by_cases he : xs[i] = bs[i]
    · simp [he, ih]
    · simp [he]
theorem acc_arr (fs : List Int) : (accCells fs).extract 0 30 = ((padF fs).map (Value.int .i64)).toArray := by
  unfold accCells
  rw [List.extract_toArray, List.extract_eq_take_drop]
  simp only [List.drop_zero, Nat.sub_zero]
  rw [List.take_append_of_le_length (by rw [List.length_map, padF_len]; exact Nat.le_refl _), List.take_of_length_le (by rw [List.length_map, padF_len]; exact Nat.le_refl _)]
theorem part_nums (W : World) (xs : Array Value) : (part 23 xs 0).run Tryd.prog W = .ok (.agg (xs.extract 0 30)) W := by
  kernel_rfl
theorem eq_acc (W : World) (m : Nat) (fs gs : List Int) : (Op.equalIn (m + 3) 25 (.agg (accCells fs)) (.agg (accCells gs))).run Tryd.prog W = .ok (sameF fs gs) W := by
  rw [run_equalIn_struct W (m + 2) 25 _ _ accUnder accStood]
  obtain ⟨l, hl⟩ : ∃ l, (Tryd.prog.fieldsOf 25).toList = l := ⟨_, rfl⟩
  have hf := accFields
  rw [hl] at hf ⊢
  match l, hf with
  | [f0, f1], hf =>
    simp only [List.map_cons, List.map_nil, List.cons.injEq, Prod.mk.injEq, bne_iff_ne, and_true] at hf
    obtain ⟨⟨n0, t0, o0⟩, n1, t1, o1⟩ := hf
    obtain ⟨i, hi⟩ := accInfo
    have E1 : (Op.equalIn (m + 2) 23 (.agg ((padF fs).map (Value.int .i64)).toArray) (.agg ((padF gs).map (Value.int .i64)).toArray)).run Tryd.prog W = .ok ((List.range 30).all fun i => (padF fs)[i]? == (padF gs)[i]?) W := by
      rw [run_equalIn_array W (m + 1) _ _ accArr hi, accInt1]
      exact eq_items W m _ _ _ (fun i hi => by rw [padF_len, padF_len]; simpa using hi)
    have P1 := part_z W (accCells fs) 30 _ (acc_begun fs)
    have P2 := part_z W (accCells gs) 30 _ (acc_begun gs)
    unfold sameF
    simp only [Op.eqFields, t0, t1, o0, o1, n0, n1, ne_eq, not_false_eq_true, if_true, Sem.run_bind, part_nums, acc_arr, Result.andThen_ok, E1]
    cases hq : (List.range 30).all fun i => (padF fs)[i]? == (padF gs)[i]? with
    | false => simp
    | true =>
      simp only [Bool.not_true, if_false, Sem.run_bind, P1, P2, Result.andThen_ok, run_equalIn_int W (m + 1) 3 .i64 .i64 _ _ Tryd.underlying3, Bool.true_and, Bool.false_eq_true]
      cases (((min fs.length 31 : Nat) : Int) == ((min gs.length 31 : Nat) : Int)) <;> simp
theorem exec_load {P : Program} {o : Oper} {a : Act} (T : TypeId) (x : Operand) (ho : o.op = .load T x) {ad : Addr} {v : Value} {w : World} (hx : a.eval x = .pointer (some ad)) (hr : (loadVar T ad).run P w = .ok v w) :
    (execOp a.eval o).run P w = .ok (.value v) w := by
  unfold execOp
  simp only [ho, hx, Instr.loadAt, Instr.sureAddr, Sem.run_bind, Sem.run_pure, Result.andThen_ok, hr]
set_option maxHeartbeats 1000000 in
theorem accSame_any (g h : Nat) (fs gs : List Int) (w : World) (hf : Acc w g fs) (hg : Acc w h gs) :
    Calls Tryd.prog 11 #[.pointer (some ⟨g, 0, none⟩), .pointer (some ⟨h, 0, none⟩)] w fun e w' => e = .returned (.bool (sameF fs gs)) ∧ Below w.heap.size w w' := by
  have HF := Lib.hid hf; have HG := Lib.hid hg
  clear hf hg
  have hq : ∀ W p q, (eqGuard .eql 25 p q (.agg (accCells fs)) (.agg (accCells gs))).run Tryd.prog W = .ok () W := fun W p q => run_eqGuard_agg W .eql _ p q _ _ accGuard
  have hb : ∀ W, (binOp .eql 25 (.agg (accCells fs)) (.agg (accCells gs))).run Tryd.prog W = .ok (.bool (sameF fs gs)) W := fun W => by
    rw [run_eql_struct, show (10000 : Nat) = 9997 + 3 from rfl, eq_acc]
    rfl
  have h1 : ∀ W, Only [] w W → (loadVar 25 ⟨g, 0, none⟩).run Tryd.prog W = .ok (.agg (accCells fs)) W := fun W hW => run_loadVar_row W g _ _ _ (0, 0) _ (Blk.next (show Blk w g _ _ from HF.out) hW.below0) accUnder rfl (info_acc2 fs)
  have h2 : ∀ W, Only [] w W → (loadVar 25 ⟨h, 0, none⟩).run Tryd.prog W = .ok (.agg (accCells gs)) W := fun W hW => run_loadVar_row W h _ _ _ (0, 0) _ (Blk.next (show Blk w h _ _ from HG.out) hW.below0) accUnder rfl (info_acc2 gs)
  have H1 := Lib.hid h1; have H2 := Lib.hid h2
  clear h1 h2
  generalize accCells fs = xs at *
  generalize accCells gs = ys at *
  generalize sameF fs gs = q at *
  go_enter Tryd.func11, Tryd.ntmps11
  go_upto_region 1 with fail
  refine wp_region_mix_lit (by kernel_rfl) [] (by kernel_rfl) (by kernel_rfl) (by kernel_rfl) (by rfl) (by simp [apartK] <;> omega) (by simp [startK]) (by simp [stabK]) (⟨fun _ => undef, by simp [okK]⟩) (fun β hβ => ?_)
  refine lex_val (v := ?_) rfl rfl (fun w' hf => ?_) ?_
  rotate_left
  · go_simp
    try rfl
  try simp only [Act.put, List.setIfInBounds_toArray, List.set_cons_zero, List.set_cons_succ]
  refine lex_val (v := ?_) rfl rfl (fun w' hf => ?_) ?_
  rotate_left
  · go_simp
    try rfl
  try simp only [Act.put, List.setIfInBounds_toArray, List.set_cons_zero, List.set_cons_succ]
  refine lex_val (v := .agg xs) rfl rfl (fun w' hf => exec_load _ (.tmp 6) rfl rfl (H1.out w' hf.only)) ?_
  simp only [Act.put, List.setIfInBounds_toArray, List.set_cons_zero, List.set_cons_succ]
  refine lex_val (v := ?_) rfl rfl (fun w' hf => ?_) ?_
  rotate_left
  · go_simp
    try rfl
  try simp only [Act.put, List.setIfInBounds_toArray, List.set_cons_zero, List.set_cons_succ]
  refine lex_val (v := ?_) rfl rfl (fun w' hf => ?_) ?_
  rotate_left
  · go_simp
    try rfl
  try simp only [Act.put, List.setIfInBounds_toArray, List.set_cons_zero, List.set_cons_succ]
  refine lex_val (v := .agg ys) rfl rfl (fun w' hf => exec_load _ (.tmp 9) rfl rfl (H2.out w' hf.only)) ?_
  simp only [Act.put, List.setIfInBounds_toArray, List.set_cons_zero, List.set_cons_succ]
  repeat (
    refine lex_val (v := ?_) rfl rfl (fun w' hf => ?_) ?_
    rotate_left
    · go_simp
      try rfl
    try simp only [Act.put, List.setIfInBounds_toArray, List.set_cons_zero, List.set_cons_succ])
  refine lex_nil fun W2 he => ?_
  have hb2 := he.only.below0
  clear he
  go_wp2_with fail
  go_ret
  exact ⟨rfl, hb2⟩
end Go.Proofs.YtcbhdkcgmkkjmaaDoor

/-
  Layer 21's law: the program's Same; the reference's Get, and what both give.
  Layer 21's law: Ids; the reference's Same.
  Layer 21's law: the reference's Same.
  Layer 21's law: Is holds of keys and a list that are alike.
  Layer 21's law: what is kept from an act to the check behind it.
-/
import Derived.Test.YtlhabooeeohniaaDoorUdkP
import Derived.Test.YtlhabooeeohniaaDoorMixE
namespace Go.Proofs.YtlhabooeeohniaaDoor
open Go Go.RowKit

/-- Are texts and lock alike? -/
def sameK (T : List ByteArray) (lk : Bool) (T2 : List ByteArray) (lk2 : Bool) : Bool := ((List.range 15).all fun i => decide (T[i]? = T2[i]?)) && (lk == lk2)
theorem sameK_iff (T : List ByteArray) (lk : Bool) (T2 : List ByteArray) (lk2 : Bool) (h : T.length = 15) (h2 : T2.length = 15) : sameK T lk T2 lk2 = decide (T = T2 ∧ lk = lk2) := by
  rw [Bool.eq_iff_iff, decide_eq_true_eq]
  unfold sameK
  simp only [Bool.and_eq_true, List.all_eq_true, List.mem_range, decide_eq_true_eq, beq_iff_eq]
  refine ⟨fun ⟨ha, hb⟩ => ⟨List.ext_getElem? fun i => ?_, hb⟩, fun ⟨ha, hb⟩ => ⟨fun i _ => by rw [ha], hb⟩⟩
  by_cases hi : i < 15
  · exact ha i hi
  · rw [List.getElem?_eq_none (by omega), List.getElem?_eq_none (by omega)]
theorem str_beq (a b : ByteArray) : (a.toList == b.toList) = decide (a = b) := by
  rw [Bool.eq_iff_iff, decide_eq_true_eq, beq_iff_eq]
  refine ⟨fun h => ?_, fun h => by rw [h]⟩
  rw [ByteArray.toList_eq, ByteArray.toList_eq] at h
  obtain ⟨⟨x⟩⟩ := a
  obtain ⟨⟨y⟩⟩ := b
  simp at h
  rw [h]
theorem keyStr1 : Tryd.prog.cellsOf 9 = 1 := by kernel_rfl
theorem keyArr : Tryd.prog.underlying 24 = some (.array 15 9) := by kernel_rfl
theorem keyInfo : ∃ i, Tryd.prog.info? 9 = some i := by
  have h : (Tryd.prog.info? 9).isSome = true := by kernel_rfl
  exact Option.isSome_iff_exists.1 h
theorem keyStood : Tryd.prog.stoodInHeld 26 = false := by kernel_rfl
theorem keyGuard : Tryd.prog.eqGuardType Tryd.prog.depth 26 = false := by kernel_rfl
theorem keyFields : (Tryd.prog.fieldsOf 26).toList.map (fun f => (f.name != "_", f.type, f.offset)) = [(true, 24, 0), (true, 4, 15)] := by kernel_rfl
theorem part_str (W : World) (xs : Array Value) (i : Nat) (v : Value) (h : xs[i]? = some v) : (part 9 xs i).run Tryd.prog W = .ok v W := by
  simp [part, h]
theorem part_boolU (W : World) (xs : Array Value) (i : Nat) (v : Value) (h : xs[i]? = some v) : (part 4 xs i).run Tryd.prog W = .ok v W := by
  simp [part, h]
theorem part_texts (W : World) (xs : Array Value) : (part 24 xs 0).run Tryd.prog W = .ok (.agg (xs.extract 0 15)) W := by
  obtain ⟨i, hq, hs⟩ := Option.map_eq_some_iff.1 info_texts
  have hagg : (isAgg 24).run Tryd.prog W = .ok true W := by kernel_rfl
  simp only [part, Sem.run_bind, hagg, Result.andThen_ok, sizeOf, typeInfo]
  simp [hq, hs]
theorem key_arr (T : List ByteArray) (lk : Bool) (h : T.length = 15) : (keyC T lk).extract 0 15 = (T.map Value.string).toArray := by
  unfold keyC
  rw [List.extract_toArray, List.extract_eq_take_drop]
  simp only [List.drop_zero, Nat.sub_zero]
  rw [List.take_append_of_le_length (by rw [List.length_map, h]; exact Nat.le_refl _), List.take_of_length_le (by rw [List.length_map, h]; exact Nat.le_refl _)]
theorem eq_txts (W : World) (m : Nat) (xs bs : List ByteArray) : ∀ is : List Nat, (∀ i ∈ is, i < xs.length ∧ i < bs.length) →
    (Op.eqItems (m + 1) 9 1 (xs.map Value.string).toArray (bs.map Value.string).toArray is).run Tryd.prog W = .ok (is.all fun i => decide (xs[i]? = bs[i]?)) W
  | [], _ => rfl
  | i :: is, h => by
    obtain ⟨ha, hb⟩ := h i (by simp)
    have ih := eq_txts W m xs bs is (fun j hj => h j (by simp [hj]))
    have pa := part_str W (xs.map Value.string).toArray i (.string xs[i]) (by simp [ha])
    have pb := part_str W (bs.map Value.string).toArray i (.string bs[i]) (by simp [hb])
    rw [List.all_cons, List.getElem?_eq_getElem ha, List.getElem?_eq_getElem hb]
    simp only [Op.eqItems, Nat.mul_one, Sem.run_bind, pa, pb, Result.andThen_ok, run_equalIn_string W m 9 xs[i] bs[i] Tryd.underlying9, str_beq]
    by_cases he : xs[i] = bs[i]
    · simp [he, ih]
    · simp [he]
set_option maxRecDepth 100000 in
theorem eq_keys (W : World) (m : Nat) (T : List ByteArray) (lk : Bool) (T2 : List ByteArray) (lk2 : Bool) (h : T.length = 15) (h2 : T2.length = 15) : (Op.equalIn (m + 3) 26 (.agg (keyC T lk)) (.agg (keyC T2 lk2))).run Tryd.prog W = .ok (sameK T lk T2 lk2) W := by
  rw [run_equalIn_struct W (m + 2) 26 _ _ keyUnder keyStood]
  obtain ⟨l, hl⟩ : ∃ l, (Tryd.prog.fieldsOf 26).toList = l := ⟨_, rfl⟩
  have hf := keyFields
  rw [hl] at hf ⊢
  match l, hf with
  | [f0, f1], hf =>
    simp only [List.map_cons, List.map_nil, List.cons.injEq, Prod.mk.injEq, bne_iff_ne, and_true] at hf
    obtain ⟨⟨n0, t0, o0⟩, n1, t1, o1⟩ := hf
    obtain ⟨i, hi⟩ := keyInfo
    have E1 : (Op.equalIn (m + 2) 24 (.agg (T.map Value.string).toArray) (.agg (T2.map Value.string).toArray)).run Tryd.prog W = .ok ((List.range 15).all fun i => decide (T[i]? = T2[i]?)) W := by
      rw [run_equalIn_array W (m + 1) _ _ keyArr hi, keyStr1]
      exact eq_txts W m _ _ _ (fun i hi => by rw [h, h2]; simpa using hi)
    have P1 := part_boolU W (keyC T lk) 15 _ (keyC_lk T lk h)
    have P2 := part_boolU W (keyC T2 lk2) 15 _ (keyC_lk T2 lk2 h2)
    unfold sameK
    simp only [Op.eqFields, t0, t1, o0, o1, n0, n1, ne_eq, not_false_eq_true, if_true, Sem.run_bind, part_texts, key_arr T lk h, key_arr T2 lk2 h2, Result.andThen_ok, E1]
    cases hq : (List.range 15).all fun i => decide (T[i]? = T2[i]?) with
    | false => simp
    | true =>
      simp only [Bool.not_true, if_false, Sem.run_bind, P1, P2, Result.andThen_ok, run_equalIn_bool' W (m + 1) 4 lk lk2 Tryd.underlying4, Bool.true_and, Bool.false_eq_true]
      cases (lk == lk2) <;> simp
theorem exec_loadU {P : Program} {o : Oper} {a : Act} (T : TypeId) (x : Operand) (ho : o.op = .load T x) {ad : Addr} {v : Value} {w : World} (hx : a.eval x = .pointer (some ad)) (hr : (loadVar T ad).run P w = .ok v w) :
    (execOp a.eval o).run P w = .ok (.value v) w := by
  unfold execOp
  simp only [ho, hx, Instr.loadAt, Instr.sureAddr, Sem.run_bind, Sem.run_pure, Result.andThen_ok, hr]
set_option maxHeartbeats 1000000 in
theorem sameU_any (K L : Nat) (T : List ByteArray) (lk : Bool) (T2 : List ByteArray) (lk2 : Bool) (w : World) (h : KeyB w K T lk) (h2 : KeyB w L T2 lk2) :
    Calls Tryd.prog 10 #[.pointer (some ⟨K, 0, none⟩), .pointer (some ⟨L, 0, none⟩)] w fun e w' => e = .returned (.bool (decide (T = T2 ∧ lk = lk2))) ∧ Below w.heap.size w w' := by
  rw [← sameK_iff T lk T2 lk2 h.2 h2.2]
  have HF := Lib.hid h.1; have HG := Lib.hid h2.1
  have hq : ∀ W p q, (eqGuard .eql 26 p q (.agg (keyC T lk)) (.agg (keyC T2 lk2))).run Tryd.prog W = .ok () W := fun W p q => run_eqGuard_agg W .eql _ p q _ _ keyGuard
  have hb : ∀ W, (binOp .eql 26 (.agg (keyC T lk)) (.agg (keyC T2 lk2))).run Tryd.prog W = .ok (.bool (sameK T lk T2 lk2)) W := fun W => by
    rw [run_eql_struct, show (10000 : Nat) = 9997 + 3 from rfl, eq_keys W 9997 T lk T2 lk2 h.2 h2.2]
    rfl
  have h1 : ∀ W, Only [] w W → (loadVar 26 ⟨K, 0, none⟩).run Tryd.prog W = .ok (.agg (keyC T lk)) W := fun W hW => run_loadVar_row W K _ _ _ (0, 0) _ (Blk.next (show Blk w K _ _ from HF.out) hW.below0) keyUnder rfl (info_key T lk h.2)
  have h3 : ∀ W, Only [] w W → (loadVar 26 ⟨L, 0, none⟩).run Tryd.prog W = .ok (.agg (keyC T2 lk2)) W := fun W hW => run_loadVar_row W L _ _ _ (0, 0) _ (Blk.next (show Blk w L _ _ from HG.out) hW.below0) keyUnder rfl (info_key T2 lk2 h2.2)
  have H1 := Lib.hid h1; have H2 := Lib.hid h3
  clear h1 h3 h h2 HF HG
  generalize keyC T lk = xs at *
  generalize keyC T2 lk2 = ys at *
  generalize sameK T lk T2 lk2 = q at *
  --#1
  go_enter Tryd.func10, Tryd.ntmps10
  go_upto_region 1 with fail
  refine wp_region_mix_lit (by kernel_rfl) [] (by kernel_rfl) (by kernel_rfl) (by kernel_rfl) (by rfl) (by simp [apartK] <;> omega) (by simp [startK]) (by simp [stabK]) (⟨fun _ => undef, by simp [okK]⟩) (fun β hβ => ?_)
  refine lex_val (v := ?_) rfl rfl (fun w' hf => ?_) ?_
  rotate_left
  · go_simp
    try rfl
  try simp only [Act.put, List.setIfInBounds_toArray, List.set_cons_zero, List.set_cons_succ]
  refine lex_val (v := ?_) rfl rfl (fun w' hf => ?_) ?_
  rotate_left
  · go_simp
    try rfl
  try simp only [Act.put, List.setIfInBounds_toArray, List.set_cons_zero, List.set_cons_succ]
  refine lex_val (v := .agg xs) rfl rfl (fun w' hf => exec_loadU _ (.tmp 6) rfl rfl (H1.out w' hf.only)) ?_
  simp only [Act.put, List.setIfInBounds_toArray, List.set_cons_zero, List.set_cons_succ]
  refine lex_val (v := ?_) rfl rfl (fun w' hf => ?_) ?_
  rotate_left
  · go_simp
    try rfl
  try simp only [Act.put, List.setIfInBounds_toArray, List.set_cons_zero, List.set_cons_succ]
  refine lex_val (v := ?_) rfl rfl (fun w' hf => ?_) ?_
  rotate_left
  · go_simp
    try rfl
  try simp only [Act.put, List.setIfInBounds_toArray, List.set_cons_zero, List.set_cons_succ]
  refine lex_val (v := .agg ys) rfl rfl (fun w' hf => exec_loadU _ (.tmp 9) rfl rfl (H2.out w' hf.only)) ?_
  simp only [Act.put, List.setIfInBounds_toArray, List.set_cons_zero, List.set_cons_succ]
  repeat (
    refine lex_val (v := ?_) rfl rfl (fun w' hf => ?_) ?_
    rotate_left
    · go_simp
      try rfl
    try simp only [Act.put, List.setIfInBounds_toArray, List.set_cons_zero, List.set_cons_succ])
  refine lex_nil fun W2 he => ?_
  have hb2 := he.only.below0
  clear he
  go_wp2_with fail
  go_ret
  exact ⟨rfl, hb2⟩

/-- What the reference has. -/
def getR : List Tx → Int → ByteArray × Bool
  | [], _ => (⟨#[]⟩, false)
  | x :: l, key => if x.k = key then (x.s, true) else getR l key
theorem getR_drop (l : List Tx) (k : Nat) (h : k < l.length) (key : Int) : getR (l.drop k) key = if l[k].k = key then (l[k].s, true) else getR (l.drop (k + 1)) key := by
  rw [List.drop_eq_getElem_cons h]; rfl
theorem getR_skip (key : Int) : ∀ (T : List ByteArray) (j : Nat), (∀ i, j ≤ i → i < j + T.length → nthU i ≠ key) → getR (listF j T) key = (⟨#[]⟩, false)
  | [], _, _ => rfl
  | t :: T, j, h => by
    have ih := getR_skip key T (j + 1) (fun i h1 h2 => h i (by omega) (by simp; omega))
    show getR ((if t = ⟨#[]⟩ then [] else [⟨nthU j, t⟩]) ++ listF (j + 1) T) key = _
    by_cases ht : t = ⟨#[]⟩
    · rw [if_pos ht, List.nil_append, ih]
    · rw [if_neg ht]
      show (if nthU j = key then _ else getR (listF (j + 1) T) key) = _
      rw [if_neg (h j (by omega) (by simp)), ih]
theorem getR_at (k : Nat) : ∀ (T : List ByteArray) (j : Nat), j ≤ k → k < j + T.length → j + T.length ≤ 15 → getR (listF j T) (nthU k) = if T.getD (k - j) ⟨#[]⟩ = ⟨#[]⟩ then (⟨#[]⟩, false) else (T.getD (k - j) ⟨#[]⟩, true)
  | [], j, h1, h2, _ => by simp at h2; omega
  | t :: T, j, h1, h2, hl => by
    have hl' : j + 1 + T.length ≤ 15 := by simp at hl; omega
    show getR ((if t = ⟨#[]⟩ then [] else [⟨nthU j, t⟩]) ++ listF (j + 1) T) (nthU k) = _
    by_cases hk : j = k
    · subst hk
      have hsk := getR_skip (nthU j) T (j + 1) (fun i h3 h4 => by have := nthU_lt j i (by omega) (by omega); omega)
      rw [Nat.sub_self, show (t :: T).getD 0 ⟨#[]⟩ = t from rfl]
      by_cases ht : t = ⟨#[]⟩
      · rw [if_pos ht, if_pos ht, List.nil_append, hsk]
      · rw [if_neg ht, if_neg ht]
        show (if nthU j = nthU j then _ else _) = _
        rw [if_pos rfl]
    · have hlt := nthU_lt j k (by omega) (by simp at h2 hl; omega)
      have ih := getR_at k T (j + 1) (by omega) (by simp at h2; omega) hl'
      have e : (t :: T).getD (k - j) ⟨#[]⟩ = T.getD (k - (j + 1)) ⟨#[]⟩ := by rw [show k - j = (k - (j + 1)) + 1 from by omega]; rfl
      rw [e]
      by_cases ht : t = ⟨#[]⟩
      · rw [if_pos ht, List.nil_append, ih]
      · rw [if_neg ht]
        show (if nthU j = nthU k then _ else getR (listF (j + 1) T) (nthU k)) = _
        rw [if_neg (by omega), ih]
theorem plcK_ne (key : Int) : ∀ (f k : Nat), plcK key f k < 0 → ∀ i, k ≤ i → i < k + f → nthU i ≠ key
  | 0, _, _, i, h1, h2 => by omega
  | f + 1, k, h, i, h1, h2 => by
    have e : plcK key (f + 1) k = if nthU k = key then (k : Int) else plcK key f (k + 1) := rfl
    rw [e] at h
    by_cases hk : nthU k = key
    · rw [if_pos hk] at h; omega
    · rw [if_neg hk] at h
      by_cases hik : i = k
      · rw [hik]; exact hk
      · exact plcK_ne key f (k + 1) h i (by omega) (by omega)
theorem plcK_is (key : Int) : ∀ (f k : Nat), 0 ≤ plcK key f k → k ≤ (plcK key f k).toNat ∧ (plcK key f k).toNat < k + f ∧ nthU (plcK key f k).toNat = key
  | 0, _, h => by simp [plcK] at h
  | f + 1, k, h => by
    have e : plcK key (f + 1) k = if nthU k = key then (k : Int) else plcK key f (k + 1) := rfl
    rw [e] at h ⊢
    by_cases hk : nthU k = key
    · rw [if_pos hk]; exact ⟨by omega, by omega, by simpa using hk⟩
    · rw [if_neg hk] at h ⊢
      obtain ⟨h1, h2, h3⟩ := plcK_is key f (k + 1) h
      exact ⟨by omega, by omega, h3⟩
theorem get_same (T : List ByteArray) (hT : T.length = 15) (key : Int) : getR (listU T) key = getU T key := by
  unfold getU
  by_cases hp : plc key < 0
  · rw [if_pos hp]
    exact getR_skip key T 0 (fun i h1 h2 => plcK_ne key 15 0 hp i h1 (by omega))
  · rw [if_neg hp]
    obtain ⟨h1, h2, h3⟩ := plcK_is key 15 0 (show 0 ≤ plc key by omega)
    have h := getR_at (plc key).toNat T 0 (by omega) (by unfold plc; omega) (by omega)
    rw [Nat.sub_zero, show nthU (plc key).toNat = key from h3] at h
    exact h
set_option maxHeartbeats 2000000 in
theorem refGet_any (A : Option Addr) (c : Nat) (l : List Tx) (hl : l.length ≤ 1000) (lk : Bool) (key : Int) (w : World) (hr : RTx w A l) :
    Calls Tryd.prog 13 #[.agg #[.slice A l.length c, .bool lk], .int .i64 key] w fun e w' => e = .returned (.tuple #[.string (getR l key).1, .bool (getR l key).2]) ∧ Below w.heap.size w w' := by
  have hB : Below w.heap.size w (w.alloc (.cells #[.slice A l.length c, .bool lk] 29)) := (Below.refl _ _).alloc (Nat.le_refl _) _
  have HR := Lib.hid (hr.next hB)
  have b := Blk.new w 29 #[.slice A l.length c, .bool lk]
  have q0 := b.cell 0
  obtain ⟨G, hG⟩ : ∃ G, G = getR l key := ⟨_, rfl⟩
  rw [← hG]
  have HG := Lib.hid hG; have HB := Lib.hid hB
  clear hr hB hG b
  go_enter Tryd.func13, Tryd.ntmps13
  go_upto_region 2 with fail
  generalize (w.alloc (.cells #[.slice A l.length c, .bool lk] 29)) = W0 at *
  --#2
  go_loopw [6] (fun i wr => ∃ k : Nat, k ≤ l.length ∧ i = .int .i64 k ∧ Hid (G = getR (l.drop k) key) ∧ W0 = wr) (fun i _ => l.length - (intOf i).toNat)
  case atStart => exact ⟨0, by omega, by simp, Lib.hid (by rw [HG.out]; rfl), rfl⟩
  case round =>
    obtain ⟨k, hk, rfl, hg, rfl⟩ := hrel
    by_cases hlt : k < l.length
    · have hgd := getR_drop l k hlt key
      obtain ⟨ad, rfl, _⟩ := HR.out.2 (by omega)
      obtain ⟨s0, s1⟩ := HR.out.two hlt
      have hwk : IntKind.i64.wrap ((k : Int) + 1) = (k : Int) + 1 := IntWalk.i64_in _ (by omega)
      have m0 : (0 : Int) ≤ (k : Int) := by omega
      have m1 : ((k : Int) < (l.length : Int)) = True := eq_true (by omega)
      generalize l[k] = x at *
      obtain ⟨xk, xs⟩ := x
      simp only at s0 s1 hgd
      by_cases he : xk = key
      · subst he
        rw [if_pos rfl] at hgd
        have HG2 : Hid (G = (xs, true)) := Lib.hid (by rw [hg.out, hgd])
        clear hgd hg
        go_wp2_with fail
        go_ret2
        exact ⟨by rw [HG2.out]; rfl, HB.out⟩
      · rw [if_neg he] at hgd
        have HG2 : Hid (G = getR (l.drop (k + 1)) key) := Lib.hid (by rw [hg.out, hgd])
        have q2 : (xk == key) = false := by simpa using he
        clear hgd hg
        go_wp2_with fail
        go_roundw
        case rel => exact ⟨k + 1, by omega, by go_num, HG2, trivial⟩
        case measure => simp [intOf]; omega
    · obtain rfl : k = l.length := by omega
      have HG2 : Hid (G = (⟨#[]⟩, false)) := Lib.hid (by rw [hg.out, List.drop_length]; rfl)
      clear hg
      go_wp2_with fail
      go_ret2
      exact ⟨by rw [HG2.out]; rfl, HB.out⟩
end Go.Proofs.YtlhabooeeohniaaDoor

namespace Go.Proofs.YtlhabooeeohniaaDoor
open Go Go.RowKit

/-- Numbers of the call's own. -/
def OIn (w : World) (base : Nat) (v : Value) (ns : List Int) : Prop := w.ownsRow base 3 1 v ns.length (ns.map (Value.int .i64))
theorem oin_own {w : World} {base : Nat} {v : Value} {ns : List Int} (h : OIn w base v ns) : w.ownsRow base 3 1 v ns.length (ns.map (Value.int .i64)) := h
theorem info_intU : (Tryd.prog.info? 3).map (fun i => (i.zero, i.size, i.bytes)) = some (some (.int .i64 0), 1, 8) := by kernel_rfl
theorem int_oneU (n : Int) : ∀ u ∈ [Value.int .i64 n], u.oneCell' = true := by
  intro u hu
  simp at hu
  subst hu
  rfl
theorem OIn.form {w : World} {base : Nat} {v : Value} {ns : List Int} (h : OIn w base v ns) : ∃ A c, v = .slice A ns.length c ∧ Reads w w.heap.size 1 A ns.length (ns.map (Value.int .i64)) := by
  have h0 := h
  rcases h.2 with ⟨rfl, hn⟩ | ⟨g, cap, cur, rfl, hb, r⟩
  · have : ns = [] := List.eq_nil_of_length_eq_zero hn
    subst this
    exact ⟨none, 0, rfl, Reads.none_⟩
  · exact ⟨_, _, rfl, Reads.of_own h0⟩
theorem listF_drop (T : List ByteArray) (k : Nat) (h : k < T.length) : listF k (T.drop k) = (if T[k] = ⟨#[]⟩ then [] else [⟨nthU k, T[k]⟩]) ++ listF (k + 1) (T.drop (k + 1)) := by
  rw [List.drop_eq_getElem_cons h]; rfl
set_option maxHeartbeats 2000000 in
theorem ids_any (K : Nat) (T : List ByteArray) (lk : Bool) (w : World) (h : KeyB w K T lk) (hn : Nums w) :
    Calls Tryd.prog 23 #[.pointer (some ⟨K, 0, none⟩)] w fun e w' => ∃ v, e = .returned v ∧ OIn w' w.heap.size v ((listU T).map (·.k)) ∧ Below w.heap.size w w' := by
  have HK := Lib.hid h
  have hT := h.2
  have HI := Lib.hid (fun k hk W => idx_texts T hT k hk W)
  have HN := Lib.hid hn
  obtain ⟨Z, hZ⟩ : ∃ Z, Z = (listU T).map (·.k) := ⟨_, rfl⟩
  rw [← hZ]
  have HZ := Lib.hid hZ
  clear h hn hZ
  generalize htv : txtV T = tv at *
  go_enter Tryd.func23, Tryd.ntmps23
  go_upto_region 3 with (with_reducible refine wpList_load_texts HK.out rfl _ rfl rfl ?_; rw [htv])
  --#1
  go_loopw [3, 10] (fun v i wr => ∃ (k : Nat) (out : List Int), k ≤ 15 ∧ out.length ≤ k ∧ i = .int .i64 k ∧ OIn wr w.heap.size v out ∧ out ++ (listF k (T.drop k)).map (·.k) = Z ∧ Below w.heap.size w wr) (fun _ i _ => 15 - (intOf i).toNat)
  case atStart => exact ⟨0, [], by omega, by simp, by simp, ⟨rfl, .inl ⟨rfl, rfl⟩⟩, by rw [HZ.out]; rfl, Below.refl _ _⟩
  case round =>
    obtain ⟨k, out, hk, hol, rfl, ho, hz, hb⟩ := hrel
    have HO := Lib.hid ho; have HB := Lib.hid hb
    clear ho hb
    by_cases hlt : k < 15
    · have hi := HI.out k hlt
      have hd := listF_drop T k (by omega)
      have hwk : IntKind.i64.wrap ((k : Int) + 1) = (k : Int) + 1 := IntWalk.i64_in _ (by omega)
      have m0 : (0 : Int) ≤ (k : Int) := by omega
      have m1 : ((k : Int) < 15) = True := eq_true (by omega)
      have hcn := (HN.out.next HB.out).2 k (.int .i64 (nthU k)) (by unfold numCells; simp [hlt])
      rw [hd] at hz
      generalize T[k]'(by omega) = t at *
      clear hd
      by_cases ht : t = ⟨#[]⟩
      · rw [if_pos ht, List.nil_append] at hz
        have hz2 := Lib.hid hz
        subst ht
        clear hz hcn
        --#2
        go_wp2_with fail
        go_roundw
        case rel => exact ⟨k + 1, out, by omega, by omega, by go_num, HO.out, hz2.out, HB.out⟩
        case measure => simp [intOf]; omega
      · rw [if_neg ht] at hz
        have hz2 : Hid ((out ++ [nthU k]) ++ (listF (k + 1) (T.drop (k + 1))).map (·.k) = Z) := Lib.hid (by rw [← hz]; simp)
        have q2 : t.toList.isEmpty = false := by
          cases hs : t.toList with
          | nil =>
            exfalso; apply ht
            have := str_beq t ⟨#[]⟩
            rw [hs] at this
            simpa using this.symm
          | cons => rfl
        clear hz ht
        generalize nthU k = n at *
        --#3
        go_wp2_with (at_builtin; refine wpList_pushM rfl _ _ _ rfl w.heap.size 3 _ 1 8 Tryd.underlying55 info_intU rfl (by decide) _ _ _ rfl (oin_own HO.out) [.int .i64 n] 1 rfl (int_oneU n) _ rfl _ _ _ (by simp) rfl (by unfold maxLen; omega) (by omega) HB.out.size ?_; intro v1 w1 hown1 hg1 hb1)
        go_roundw
        case rel => exact ⟨k + 1, out ++ [n], by omega, by rw [List.length_append]; simp; omega, by go_num, by unfold OIn; rw [List.length_append, List.map_append]; exact hown1, hz2.out, HB.out.trans hb1⟩
        case measure => simp [intOf]; omega
    · obtain rfl : k = 15 := by omega
      have e : T.drop 15 = [] := List.drop_eq_nil_of_le (by omega)
      rw [e] at hz
      have hz2 : Hid (out = Z) := Lib.hid (by rw [← hz]; simp [listF])
      clear hz
      --#4
      go_wp2_with fail
      go_ret
      exact ⟨_, rfl, by rw [← hz2.out]; exact HO.out, HB.out⟩
end Go.Proofs.YtlhabooeeohniaaDoor

namespace Go.Proofs.YtlhabooeeohniaaDoor
open Go Go.RowKit

deriving instance DecidableEq for Tx
theorem txUnder : Tryd.prog.underlying 59 = some (.struct (Tryd.prog.fieldsOf 59)) := by kernel_rfl
theorem txStood : Tryd.prog.stoodInHeld 59 = false := by kernel_rfl
theorem txGuard : Tryd.prog.eqGuardType Tryd.prog.depth 59 = false := by kernel_rfl
theorem txFields : (Tryd.prog.fieldsOf 59).toList.map (fun f => (f.name != "_", f.type, f.offset)) = [(true, 3, 0), (true, 9, 1)] := by kernel_rfl
theorem part_intU (W : World) (xs : Array Value) (i : Nat) (v : Value) (h : xs[i]? = some v) : (part 3 xs i).run Tryd.prog W = .ok v W := by
  simp [part, h]
set_option maxRecDepth 100000 in
theorem eq_tx (W : World) (m : Nat) (a b : Int) (s t : ByteArray) : (Op.equalIn (m + 3) 59 (.agg #[.int .i64 a, .string s]) (.agg #[.int .i64 b, .string t])).run Tryd.prog W = .ok (decide (a = b ∧ s = t)) W := by
  rw [run_equalIn_struct W (m + 2) 59 _ _ txUnder txStood]
  obtain ⟨l, hl⟩ : ∃ l, (Tryd.prog.fieldsOf 59).toList = l := ⟨_, rfl⟩
  have hf := txFields
  rw [hl] at hf ⊢
  match l, hf with
  | [f0, f1], hf =>
    simp only [List.map_cons, List.map_nil, List.cons.injEq, Prod.mk.injEq, bne_iff_ne, and_true] at hf
    obtain ⟨⟨n0, t0, o0⟩, n1, t1, o1⟩ := hf
    have P0 := part_intU W #[.int .i64 a, .string s] 0 (.int .i64 a) rfl
    have P1 := part_intU W #[.int .i64 b, .string t] 0 (.int .i64 b) rfl
    have P2 := part_str W #[.int .i64 a, .string s] 1 (.string s) rfl
    have P3 := part_str W #[.int .i64 b, .string t] 1 (.string t) rfl
    simp only [Op.eqFields, t0, t1, o0, o1, n0, n1, ne_eq, not_false_eq_true, if_true, Sem.run_bind, P0, P1, Result.andThen_ok, run_equalIn_int W (m + 1) 3 .i64 .i64 a b Tryd.underlying3]
    by_cases hab : a = b
    · subst hab
      simp only [beq_self_eq_true, Bool.not_true, if_false, Bool.false_eq_true, Sem.run_bind, P2, P3, Result.andThen_ok, run_equalIn_string W (m + 1) 9 s t Tryd.underlying9, str_beq]
      by_cases hst : s = t <;> simp [hst]
    · simp [hab]
theorem listU_inj (T T2 : List ByteArray) (h : T.length = 15) (h2 : T2.length = 15) (e : listU T = listU T2) : T = T2 := by
  have hg : ∀ (X : List ByteArray), X.length = 15 → ∀ k, k < 15 → (getR (listU X) (nthU k)).1 = X.getD k ⟨#[]⟩ := fun X hX k hk => by
    have := getR_at k X 0 (by omega) (by omega) (by omega)
    rw [Nat.sub_zero] at this
    show (getR (listF 0 X) (nthU k)).1 = _
    rw [this]
    split
    · rename_i h0; exact h0.symm
    · rfl
  apply List.ext_getElem (by omega)
  intro k hk hk2
  have h3 := hg T h k (by omega)
  rw [e, hg T2 h2 k (by omega)] at h3
  simpa [List.getD, List.getElem?_eq_getElem hk, List.getElem?_eq_getElem hk2] using h3.symm
set_option maxRecDepth 100000 in
set_option maxHeartbeats 4000000 in
theorem refSame_any (A : Option Addr) (c : Nat) (l : List Tx) (lk : Bool) (B : Option Addr) (d : Nat) (l2 : List Tx) (lk2 : Bool) (hl : l.length ≤ 1000) (hl2 : l2.length ≤ 1000) (w : World) (hr : RTx w A l) (hr2 : RTx w B l2) :
    Calls Tryd.prog 11 #[.agg #[.slice A l.length c, .bool lk], .agg #[.slice B l2.length d, .bool lk2]] w fun e w' => e = .returned (.bool (decide (l = l2 ∧ lk = lk2))) ∧ Below w.heap.size w w' := by
  obtain ⟨R, hR⟩ : ∃ R, R = decide (l = l2 ∧ lk = lk2) := ⟨_, rfl⟩
  rw [← hR]
  have HRR := Lib.hid hR
  clear hR
  have b0 := (Blk.new w 29 #[.slice A l.length c, .bool lk]).alloc (.cells #[.slice B l2.length d, .bool lk2] 29)
  have b1 := Blk.new (w.alloc (.cells #[.slice A l.length c, .bool lk] 29)) 29 #[.slice B l2.length d, .bool lk2]
  rw [World.size_alloc] at b1
  have hB : Below w.heap.size w ((w.alloc (.cells #[.slice A l.length c, .bool lk] 29)).alloc (.cells #[.slice B l2.length d, .bool lk2] 29)) := ((Below.refl _ w).alloc (Nat.le_refl _) _).alloc (by simp) _
  have HR := Lib.hid (hr.next hB); have HR2 := Lib.hid (hr2.next hB)
  have q0 := b0.cell 0; have q1 := b0.cell 1; have r0 := b1.cell 0; have r1 := b1.cell 1
  have HB := Lib.hid hB; have HQ := Lib.hid b0; have HQ2 := Lib.hid b1
  clear hr hr2 hB b0 b1
  go_enter Tryd.func11, Tryd.ntmps11
  go_upto_region 1 with fail
  generalize ((w.alloc (.cells #[.slice A l.length c, .bool lk] 29)).alloc (.cells #[.slice B l2.length d, .bool lk2] 29)) = W0 at *
  --#1
  by_cases hk : lk = lk2
  · subst hk
    have e1 : (lk != lk) = false := by simp
    by_cases hlen : l.length = l2.length
    · have e2 : ((l.length : Int) != (l2.length : Int)) = false := by rw [hlen]; simp
      --#2
      go_upto_region 4 with fail
      clear e1 e2 q1 r1 q0 r0
      go_loopw [5] (fun i wr => ∃ k : Nat, k ≤ l.length ∧ i = .int .i64 k ∧ Hid (l.take k = l2.take k) ∧ Below W0.heap.size W0 wr) (fun i _ => l.length - (intOf i).toNat)
      case atStart => exact ⟨0, by omega, by simp, Lib.hid rfl, Below.refl _ _⟩
      case round =>
        obtain ⟨k, hk, rfl, ht, hbk⟩ := hrel
        have HBk := Lib.hid hbk
        have q0 := (HQ.out.next hbk).cell 0; have r0 := (HQ2.out.next hbk).cell 0
        have HRk := Lib.hid (HR.out.next hbk); have HRk2 := Lib.hid (HR2.out.next hbk)
        clear hbk
        by_cases hlt : k < l.length
        · obtain ⟨ad, rfl, _⟩ := HRk.out.2 (by omega)
          obtain ⟨bd, rfl, _⟩ := HRk2.out.2 (by omega)
          have hwk : IntKind.i64.wrap ((k : Int) + 1) = (k : Int) + 1 := IntWalk.i64_in _ (by omega)
          have m0 : (0 : Int) ≤ (k : Int) := by omega
          have m1 : ((k : Int) < (l.length : Int)) = True := eq_true (by omega)
          have m2 : ((k : Int) < (l2.length : Int)) = True := eq_true (by omega)
          have hlt2 : k < l2.length := by omega
          have HS := Lib.hid (fun w' (h : Below wr.heap.size wr w') => (HRk.out.next h).two hlt)
          have HS2 := Lib.hid (fun w' (h : Below wr.heap.size wr w') => (HRk2.out.next h).two hlt2)
          have hstep : l.take (k + 1) = l2.take (k + 1) ↔ l[k] = l2[k] := by
            rw [List.take_succ_eq_append_getElem hlt, List.take_succ_eq_append_getElem hlt2, ht.out, List.append_cancel_left_eq]
            exact ⟨fun e => by injection e, fun e => by rw [e]⟩
          have hwhole : l = l2 → l[k] = l2[k] := fun e => by subst e; rfl
          generalize l[k] = x at *
          generalize l2[k] = y at *
          obtain ⟨xk, xs⟩ := x
          obtain ⟨yk, ys⟩ := y
          simp only at HS HS2
          have hxy : ((⟨xk, xs⟩ : Tx) = ⟨yk, ys⟩) ↔ (xk = yk ∧ xs = ys) := by simp
          rw [hxy] at hstep hwhole
          obtain ⟨q, hq⟩ : ∃ q, q = decide (xk = yk ∧ xs = ys) := ⟨_, rfl⟩
          have HX := Lib.hid (fun W => show (binOp .neq 59 (.agg #[.int .i64 xk, .string xs]) (.agg #[.int .i64 yk, .string ys])).run Tryd.prog W = .ok (.bool (!q)) W by
            rw [run_neq_struct, show (10000 : Nat) = 9997 + 3 from rfl, eq_tx, hq]
            rfl)
          have HG := Lib.hid (fun W p r => run_eqGuard_agg (P := Tryd.prog) W .neq 59 p r #[.int .i64 xk, .string xs] #[.int .i64 yk, .string ys] txGuard)
          have HST := Lib.hid hstep; have HWH := Lib.hid hwhole; have HQE := Lib.hid hq
          clear hstep hwhole hxy hq
          --#3
          go_upto_region 6 with fail
          clear q0 r0
          refine wp_region_mix_lit (by kernel_rfl) [] (by kernel_rfl) (by kernel_rfl) (by kernel_rfl) (by rfl) (by simp [apartK] <;> omega) (by simp [startK]) (by simp [stabK]) (⟨fun _ => undef, by simp [okK]⟩) (fun β hβ => ?_)
          refine lex_val (v := ?_) rfl rfl (fun w' hf => ?_) ?_
          rotate_left
          · go_simp
            try rfl
          try simp only [Act.put, List.setIfInBounds_toArray, List.set_cons_zero, List.set_cons_succ]
          refine lex_val (v := ?_) rfl rfl (fun w' hf => ?_) ?_
          rotate_left
          · have q0 := ((HQ.out.next HBk.out).next hf.only.below0).cell 0; go_simp
            try rfl
          try simp only [Act.put, List.setIfInBounds_toArray, List.set_cons_zero, List.set_cons_succ]
          refine lex_val (v := ?_) rfl rfl (fun w' hf => ?_) ?_
          rotate_left
          · go_simp
            try rfl
          try simp only [Act.put, List.setIfInBounds_toArray, List.set_cons_zero, List.set_cons_succ]
          refine lex_val (v := ?_) rfl rfl (fun w' hf => ?_) ?_
          rotate_left
          · go_simp
            try rfl
          try simp only [Act.put, List.setIfInBounds_toArray, List.set_cons_zero, List.set_cons_succ]
          --#4
          refine lex_val (v := ?_) rfl rfl (fun w' hf => ?_) ?_
          rotate_left
          · have hs := HS.out w' hf.only.below0; obtain ⟨s0, s1⟩ := hs; go_simp
            try rfl
          try simp only [Act.put, List.setIfInBounds_toArray, List.set_cons_zero, List.set_cons_succ]
          refine lex_val (v := ?_) rfl rfl (fun w' hf => ?_) ?_
          rotate_left
          · go_simp
            try rfl
          try simp only [Act.put, List.setIfInBounds_toArray, List.set_cons_zero, List.set_cons_succ]
          refine lex_val (v := ?_) rfl rfl (fun w' hf => ?_) ?_
          rotate_left
          · have q0 := ((HQ2.out.next HBk.out).next hf.only.below0).cell 0; go_simp
            try rfl
          try simp only [Act.put, List.setIfInBounds_toArray, List.set_cons_zero, List.set_cons_succ]
          refine lex_val (v := ?_) rfl rfl (fun w' hf => ?_) ?_
          rotate_left
          · go_simp
            try rfl
          try simp only [Act.put, List.setIfInBounds_toArray, List.set_cons_zero, List.set_cons_succ]
          refine lex_val (v := ?_) rfl rfl (fun w' hf => ?_) ?_
          rotate_left
          · go_simp
            try rfl
          try simp only [Act.put, List.setIfInBounds_toArray, List.set_cons_zero, List.set_cons_succ]
          refine lex_val (v := ?_) rfl rfl (fun w' hf => ?_) ?_
          rotate_left
          · have hs := HS2.out w' hf.only.below0; obtain ⟨s0, s1⟩ := hs; go_simp
            try rfl
          try simp only [Act.put, List.setIfInBounds_toArray, List.set_cons_zero, List.set_cons_succ]
          --#5
          refine lex_val (v := .bool (!q)) rfl rfl (fun w' hf => ?_) ?_
          · have hb := HX.out; have hg := HG.out
            go_simp
            try rfl
          try simp only [Act.put, List.setIfInBounds_toArray, List.set_cons_zero, List.set_cons_succ]
          refine lex_nil fun W2 he => ?_
          have hb2 := he.only.below0
          clear he
          have HBn := Lib.hid (HBk.out.trans (hb2.mono HBk.out.size))
          clear hb2
          --#6
          rcases q with _ | _
          · go_wp2_with fail
            go_ret
            exact ⟨by rw [HRR.out, decide_eq_false (fun e => by have h4 := HQE.out; rw [decide_eq_true (HWH.out e.1)] at h4; cases h4)]; rfl, HB.out.trans (HBn.out.mono HB.out.size)⟩
          · go_wp2_with fail
            go_roundw
            case rel => exact ⟨k + 1, by omega, by go_num, Lib.hid (HST.out.mpr (of_decide_eq_true HQE.out.symm)), HBn.out⟩
            case measure => simp [intOf]; omega
        · obtain rfl : k = l.length := by omega
          have heq : Hid (l = l2) := Lib.hid (by
            have := ht.out
            rw [List.take_length, hlen, List.take_length] at this
            exact this)
          go_wp2_with fail
          go_ret
          exact ⟨by rw [HRR.out, decide_eq_true ⟨heq.out, trivial⟩]; rfl, HB.out.trans (HBk.out.mono HB.out.size)⟩
    · have e2 : ((l.length : Int) != (l2.length : Int)) = true := by rw [bne_iff_ne]; omega
      go_wp2_with fail
      go_ret
      exact ⟨by rw [HRR.out, decide_eq_false (fun e => hlen (by rw [e.1]))]; rfl, HB.out⟩
  · have e1 : (lk != lk2) = true := by simpa using hk
    go_wp2_with fail
    go_ret
    exact ⟨by rw [HRR.out, decide_eq_false (fun e => hk e.2)]; rfl, HB.out⟩
end Go.Proofs.YtlhabooeeohniaaDoor

namespace Go.Proofs.YtlhabooeeohniaaDoor
open Go Go.RowKit

theorem listF_mem : ∀ (T : List ByteArray) (j : Nat) (x : Tx), x ∈ listF j T → ∃ i, j ≤ i ∧ i < j + T.length ∧ x.k = nthU i ∧ T.getD (i - j) ⟨#[]⟩ = x.s ∧ x.s ≠ ⟨#[]⟩
  | [], _, x, h => by simp [listF] at h
  | t :: T, j, x, h => by
    unfold listF at h
    rw [List.mem_append] at h
    rcases h with h | h
    · by_cases ht : t = ⟨#[]⟩
      · rw [if_pos ht] at h; cases h
      · rw [if_neg ht] at h
        rw [List.mem_singleton] at h
        subst h
        exact ⟨j, by omega, by simp, rfl, by simp, ht⟩
    · obtain ⟨i, h1, h2, h3, h4, h5⟩ := listF_mem T (j + 1) x h
      refine ⟨i, by omega, by simp; omega, h3, ?_, h5⟩
      rw [show i - j = (i - (j + 1)) + 1 from by omega]
      exact h4
theorem get_own (T : List ByteArray) (hT : T.length = 15) (x : Tx) (h : x ∈ listU T) : getU T x.k = (x.s, true) := by
  rw [← get_same T hT]
  obtain ⟨i, h1, h2, h3, h4, h5⟩ := listF_mem T 0 x h
  have hg := getR_at i T 0 h1 h2 (by omega)
  rw [Nat.sub_zero] at h4 hg
  rw [h4, if_neg h5, ← h3] at hg
  exact hg
theorem actU_small (T : List ByteArray) (lk : Bool) (a : Ak) (h : usedT T ≤ 804) : usedT (actU T lk a).1 ≤ 804 := by
  unfold actU
  split
  · exact h
  · split
    · show usedT noT ≤ 804
      decide
    · show usedT (defU T lk a.cl a.lo _).2.1 ≤ 804
      unfold defU
      split
      · exact h
      · split
        · exact h
        · split
          · exact h
          · simp only
            omega
set_option maxRecDepth 100000 in
set_option maxHeartbeats 8000000 in
theorem is_any (K : Nat) (A : Option Addr) (c : Nat) (T : List ByteArray) (lk : Bool) (w : World) (h : Both w K A T lk) (hn : Nums w) (hs : usedT T ≤ 804) :
    Calls Tryd.prog 9 #[.pointer (some ⟨K, 0, none⟩), .agg #[.slice A (listU T).length c, .bool lk]] w fun e w' => e = .returned (.bool true) ∧ Below w.heap.size w w' := by
  have hB : Below w.heap.size w (w.alloc (.cells #[.slice A (listU T).length c, .bool lk] 29)) := (Below.refl _ w).alloc (Nat.le_refl _) _
  have b0 := Blk.new w 29 #[.slice A (listU T).length c, .bool lk]
  have H0 := Lib.hid (h.next hB); have HN0 := Lib.hid (hn.next hB)
  have hT : T.length = 15 := h.key.2
  have hll : (listU T).length ≤ 15 := by have := listF_len T 0; unfold listU; omega
  have hul : usedL (listU T) = usedT T := usedF_eq T 0
  have HG := Lib.hid (fun x hx => get_own T hT x hx)
  have HB := Lib.hid hB; have HQ := Lib.hid b0
  clear h hn hB b0
  go_enter Tryd.func9, Tryd.ntmps9
  go_upto_region 1 with fail
  generalize (w.alloc (.cells #[.slice A (listU T).length c, .bool lk] 29)) = W0 at *
  have HI := Lib.hid (ids_any K T lk W0 H0.out.key HN0.out)
  --#1
  go_wp2_with fail
  refine HI.out.mono ?_
  rintro e W1 ⟨v, rfl, ho, hb⟩
  obtain ⟨B, cB, rfl, hrd⟩ := ho.form
  have H1 := Lib.hid (H0.out.next hb); have HN1 := Lib.hid (HN0.out.next hb)
  have HQ1 := Lib.hid (HQ.out.next hb); have HB1 := Lib.hid (HB.out.trans (hb.mono HB.out.size))
  have HRD := Lib.hid hrd
  have hlm : ((listU T).map (·.k)).length = (listU T).length := List.length_map _
  have HMK : Hid (((listU T).map (·.k)).map (Value.int .i64) = (listU T).map fun x => Value.int .i64 x.k) := Lib.hid (by rw [List.map_map]; rfl)
  rw [hlm] at HRD ⊢
  rw [HMK.out] at HRD
  clear ho hb hrd HI HQ HB H0 HN0 hlm HMK
  obtain ⟨l, hl⟩ : ∃ l, l = listU T := ⟨_, rfl⟩
  obtain ⟨u, hu⟩ : ∃ u, u = usedT T := ⟨_, rfl⟩
  have HSP := Lib.hid (fun W (hW : Below W1.heap.size W1 W) => space_any K T lk W (H1.out.next hW).key (H1.out.next hW).short.used)
  have HUS := Lib.hid (fun W (hW : Below W1.heap.size W1 W) => usedL_any A c (listU T) (by omega) (by omega) W (H1.out.next hW).tx)
  have HLK := Lib.hid (fun W (hW : Below W1.heap.size W1 W) => locked_any K T lk W (H1.out.next hW).key)
  have HGT := Lib.hid (fun (x : Tx) (hx : x ∈ listU T) W (hW : Below W1.heap.size W1 W) => uGet_any K T lk x.k W (H1.out.next hW).key (HN1.out.next hW))
  have HTX := Lib.hid H1.out.tx
  rw [hul] at HUS
  rw [← hl] at HUS HGT HG HRD HTX hll HQ1 ⊢
  rw [← hu] at HUS HSP hs
  have hws : IntKind.i64.wrap (804 - (u : Int)) = 804 - (u : Int) := IntWalk.i64_in _ (by omega)
  have hneg : ((804 - (u : Int)) < 0) = False := eq_false (by omega)
  clear hul hl hu H1 HN1 hT
  --#2
  go_upto_region 2 with fail
  refine wp_region_mix_lit (by kernel_rfl) [(8, .call (.int .i64 (804 - (u : Int)))), (11, .call (.int .i64 (u : Int))), (17, .call (.int .i64 (804 - (u : Int)))), (22, .call (.bool lk))] (by kernel_rfl) (by kernel_rfl) (by kernel_rfl) (by rfl) (by simp [apartK] <;> omega) (by simp [startK]) (by simp only [List.forall_mem_cons]; exact ⟨trivial, trivial, trivial, trivial, by simp⟩) (⟨fun _ => undef, by simp only [List.forall_mem_cons]; exact ⟨trivial, trivial, trivial, trivial, by simp⟩⟩) (fun β hβ => ?_)
  refine lex_val (v := ?_) rfl rfl (fun w' hf => ?_) ?_
  rotate_left
  · go_simp
    try rfl
  try simp only [Act.put, List.setIfInBounds_toArray, List.set_cons_zero, List.set_cons_succ]
  refine lex_val (v := ?_) rfl rfl (fun w' hf => ?_) ?_
  rotate_left
  · go_simp
    try rfl
  try simp only [Act.put, List.setIfInBounds_toArray, List.set_cons_zero, List.set_cons_succ]
  refine lex_val (v := ?_) rfl rfl (fun w' hf => ?_) ?_
  rotate_left
  · go_simp
    try rfl
  try simp only [Act.put, List.setIfInBounds_toArray, List.set_cons_zero, List.set_cons_succ]
  refine lex_val (v := ?_) rfl rfl (fun w' hf => ?_) ?_
  rotate_left
  · have q0 := (HQ1.out.next hf.only.below0).cell 0; go_simp
    try rfl
  try simp only [Act.put, List.setIfInBounds_toArray, List.set_cons_zero, List.set_cons_succ]
  refine lex_val (v := ?_) rfl rfl (fun w' hf => ?_) ?_
  rotate_left
  · go_simp
    try rfl
  try simp only [Act.put, List.setIfInBounds_toArray, List.set_cons_zero, List.set_cons_succ]
  --#3
  refine lex_val (v := .bool false) rfl rfl (fun w' hf => ?_) ?_
  · go_simp
    try rfl
  try simp only [Act.put, List.setIfInBounds_toArray, List.set_cons_zero, List.set_cons_succ]
  refine lex_val (v := ?_) rfl rfl (fun w' hf => ?_) ?_
  rotate_left
  · go_simp
    try rfl
  try simp only [Act.put, List.setIfInBounds_toArray, List.set_cons_zero, List.set_cons_succ]
  refine lex_val (v := ?_) rfl rfl (fun w' hf => ?_) ?_
  rotate_left
  · go_simp
    try rfl
  try simp only [Act.put, List.setIfInBounds_toArray, List.set_cons_zero, List.set_cons_succ]
  --#4
  refine lex_call (f := 16) (args := ?_) rfl rfl (fun w' hf => ?_) (fun w' hf => ?_) ?_
  rotate_left
  · go_simp
    try rfl
  · exact (HSP.out w' hf.only.below0).mono fun e w2 ⟨he, hw⟩ => ⟨he, by rw [← hw]; exact Below.refl _ _⟩
  try simp only [Act.put, List.setIfInBounds_toArray, List.set_cons_zero, List.set_cons_succ]
  --#5
  refine lex_val (v := ?_) rfl rfl (fun w' hf => ?_) ?_
  rotate_left
  · go_simp
    try rfl
  try simp only [Act.put, List.setIfInBounds_toArray, List.set_cons_zero, List.set_cons_succ]
  refine lex_val (v := ?_) rfl rfl (fun w' hf => ?_) ?_
  rotate_left
  · have q0 := (HQ1.out.next hf.only.below0).cell 0; go_simp
    try rfl
  try simp only [Act.put, List.setIfInBounds_toArray, List.set_cons_zero, List.set_cons_succ]
  refine lex_call (f := 24) (args := ?_) rfl rfl (fun w' hf => ?_) (fun w' hf => ?_) ?_
  rotate_left
  · go_simp
    try rfl
  · exact (HUS.out w' hf.only.below0).mono fun e w2 ⟨he, hw⟩ => ⟨he, by rw [← hw]; exact Below.refl _ _⟩
  try simp only [Act.put, List.setIfInBounds_toArray, List.set_cons_zero, List.set_cons_succ]
  --#6
  refine lex_val (v := .int .i64 (804 - (u : Int))) rfl rfl (fun w' hf => ?_) ?_
  · go_simp
    try rfl
  try simp only [Act.put, List.setIfInBounds_toArray, List.set_cons_zero, List.set_cons_succ]
  refine lex_val (v := .bool false) rfl rfl (fun w' hf => ?_) ?_
  · go_simp
    try rfl
  try simp only [Act.put, List.setIfInBounds_toArray, List.set_cons_zero, List.set_cons_succ]
  refine lex_val (v := ?_) rfl rfl (fun w' hf => ?_) ?_
  rotate_left
  · go_simp
    try rfl
  try simp only [Act.put, List.setIfInBounds_toArray, List.set_cons_zero, List.set_cons_succ]
  refine lex_val (v := ?_) rfl rfl (fun w' hf => ?_) ?_
  rotate_left
  · go_simp
    try rfl
  try simp only [Act.put, List.setIfInBounds_toArray, List.set_cons_zero, List.set_cons_succ]
  refine lex_val (v := ?_) rfl rfl (fun w' hf => ?_) ?_
  rotate_left
  · go_simp
    try rfl
  try simp only [Act.put, List.setIfInBounds_toArray, List.set_cons_zero, List.set_cons_succ]
  --#7
  refine lex_call (f := 16) (args := ?_) rfl rfl (fun w' hf => ?_) (fun w' hf => ?_) ?_
  rotate_left
  · go_simp
    try rfl
  · exact (HSP.out w' hf.only.below0).mono fun e w2 ⟨he, hw⟩ => ⟨he, by rw [← hw]; exact Below.refl _ _⟩
  try simp only [Act.put, List.setIfInBounds_toArray, List.set_cons_zero, List.set_cons_succ]
  refine lex_val (v := .bool false) rfl rfl (fun w' hf => ?_) ?_
  · go_simp
    try rfl
  try simp only [Act.put, List.setIfInBounds_toArray, List.set_cons_zero, List.set_cons_succ]
  refine lex_val (v := ?_) rfl rfl (fun w' hf => ?_) ?_
  rotate_left
  · go_simp
    try rfl
  try simp only [Act.put, List.setIfInBounds_toArray, List.set_cons_zero, List.set_cons_succ]
  refine lex_val (v := ?_) rfl rfl (fun w' hf => ?_) ?_
  rotate_left
  · go_simp
    try rfl
  try simp only [Act.put, List.setIfInBounds_toArray, List.set_cons_zero, List.set_cons_succ]
  refine lex_val (v := ?_) rfl rfl (fun w' hf => ?_) ?_
  rotate_left
  · go_simp
    try rfl
  try simp only [Act.put, List.setIfInBounds_toArray, List.set_cons_zero, List.set_cons_succ]
  --#8
  refine lex_call (f := 20) (args := ?_) rfl rfl (fun w' hf => ?_) (fun w' hf => ?_) ?_
  rotate_left
  · go_simp
    try rfl
  · exact (HLK.out w' hf.only.below0).mono fun e w2 ⟨he, hw⟩ => ⟨he, by rw [← hw]; exact Below.refl _ _⟩
  try simp only [Act.put, List.setIfInBounds_toArray, List.set_cons_zero, List.set_cons_succ]
  refine lex_val (v := ?_) rfl rfl (fun w' hf => ?_) ?_
  rotate_left
  · go_simp
    try rfl
  try simp only [Act.put, List.setIfInBounds_toArray, List.set_cons_zero, List.set_cons_succ]
  refine lex_val (v := ?_) rfl rfl (fun w' hf => ?_) ?_
  rotate_left
  · have q0 := (HQ1.out.next hf.only.below0).cell 1; go_simp
    try rfl
  try simp only [Act.put, List.setIfInBounds_toArray, List.set_cons_zero, List.set_cons_succ]
  refine lex_val (v := .bool false) rfl rfl (fun w' hf => ?_) ?_
  · go_simp
    try rfl
  try simp only [Act.put, List.setIfInBounds_toArray, List.set_cons_zero, List.set_cons_succ]
  repeat (
    refine lex_val (v := ?_) rfl rfl (fun w' hf => ?_) ?_
    rotate_left
    · go_simp
      try rfl
    try simp only [Act.put, List.setIfInBounds_toArray, List.set_cons_zero, List.set_cons_succ])
  refine lex_nil fun w' he => ?_
  --#9
  obtain ⟨W2, hW2⟩ : ∃ W2, W2 = w' := ⟨_, rfl⟩
  rw [← hW2] at he ⊢
  clear hW2
  have hb2 := he.only.below0
  clear he
  have HB2 := Lib.hid (HB1.out.trans (hb2.mono HB1.out.size))
  have q0 := (HQ1.out.next hb2).cell 0
  have HRD2 := Lib.hid ((Reads.below HRD.out hb2).more hb2.size)
  have HTX2 := Lib.hid (HTX.out.next hb2)
  have HGT2 := Lib.hid (fun (x : Tx) (hx : x ∈ l) W (hW : Below W2.heap.size W2 W) => HGT.out x hx W (hb2.trans (hW.mono hb2.size)))
  clear HSP HUS HLK HGT HRD HTX HB1 hws hneg hs
  --#10
  go_upto_region 5 with fail
  clear q0
  go_loopw [42] (fun i wr => ∃ k : Nat, k ≤ l.length ∧ i = .int .i64 k ∧ Below W2.heap.size W2 wr) (fun i _ => l.length - (intOf i).toNat)
  case atStart => exact ⟨0, by omega, by simp, Below.refl _ _⟩
  case round =>
    obtain ⟨k, hk, rfl, hbk⟩ := hrel
    have HBk := Lib.hid hbk
    by_cases hlt : k < l.length
    · have HT3 := Lib.hid (HTX2.out.next hbk)
      obtain ⟨ad, rfl, _⟩ := HT3.out.2 (by omega)
      obtain ⟨s0, s1⟩ := HT3.out.two hlt
      have hwk : IntKind.i64.wrap ((k : Int) + 1) = (k : Int) + 1 := IntWalk.i64_in _ (by omega)
      have m0 : (0 : Int) ≤ (k : Int) := by omega
      have m1 : ((k : Int) < (l.length : Int)) = True := eq_true (by omega)
      have hmem : l[k] ∈ l := List.getElem_mem hlt
      have HGX := Lib.hid (fun W hW => HGT2.out l[k] hmem W hW)
      have HGE := HG.out l[k] hmem
      rw [HGE] at HGX
      obtain ⟨bd, hbd, hblt, hcl⟩ := HRD2.out.2 (by omega)
      have HBL := Lib.hid hblt
      clear hblt
      have hxk := hcl k (.int .i64 l[k].k) (by simp [hlt])
      subst hbd
      have HXK := Lib.hid hxk
      clear hxk hcl hmem HGE hbk
      generalize l[k] = x at *
      obtain ⟨xk, xs⟩ := x
      simp only at s0 s1 HXK HGX
      --#11
      go_upto_region 7 with fail
      --#12
      have bT := Blk.new wr 59 #[.int .i64 xk, .string xs]
      have hb3 : Below wr.heap.size wr (wr.alloc (.cells #[.int .i64 xk, .string xs] 59)) := (Below.refl _ _).alloc (Nat.le_refl _) _
      have hb4 := HBk.out.trans (hb3.mono HBk.out.size)
      have HGXc := Lib.hid (HGX.out _ hb4)
      have HB4 := Lib.hid hb4
      have t0 := bT.cell 0
      have HBT := Lib.hid bT
      clear hb3 hb4 bT HGX s0 s1
      generalize (wr.alloc (.cells #[.int .i64 xk, .string xs] 59)) = W3 at *
      go_wp2_with fail
      refine HGXc.out.mono ?_
      rintro e W4 ⟨rfl, rfl⟩
      --#13
      go_upto_region 8 with fail
      clear t0
      refine wp_region_mix_lit (by kernel_rfl) [] (by kernel_rfl) (by kernel_rfl) (by kernel_rfl) (by rfl) (by simp [apartK] <;> omega) (by simp [startK]) (by simp [stabK]) (⟨fun _ => undef, by simp [okK]⟩) (fun β hβ => ?_)
      refine lex_val (v := ?_) rfl rfl (fun w' hf => ?_) ?_
      rotate_left
      · go_simp
        try rfl
      try simp only [Act.put, List.setIfInBounds_toArray, List.set_cons_zero, List.set_cons_succ]
      refine lex_val (v := ?_) rfl rfl (fun w' hf => ?_) ?_
      rotate_left
      · go_simp
        try rfl
      try simp only [Act.put, List.setIfInBounds_toArray, List.set_cons_zero, List.set_cons_succ]
      refine lex_val (v := ?_) rfl rfl (fun w' hf => ?_) ?_
      rotate_left
      · go_simp
        try rfl
      try simp only [Act.put, List.setIfInBounds_toArray, List.set_cons_zero, List.set_cons_succ]
      refine lex_val (v := ?_) rfl rfl (fun w' hf => ?_) ?_
      rotate_left
      · have e := ((HB4.out.trans (hf.only.below0.mono HB4.out.size)).cell (p := bd.add k) (by rw [block_of_add]; exact HBL.out)).trans HXK.out; go_simp
        try rfl
      try simp only [Act.put, List.setIfInBounds_toArray, List.set_cons_zero, List.set_cons_succ]
      refine lex_val (v := ?_) rfl rfl (fun w' hf => ?_) ?_
      rotate_left
      · go_simp
        try rfl
      try simp only [Act.put, List.setIfInBounds_toArray, List.set_cons_zero, List.set_cons_succ]
      refine lex_val (v := ?_) rfl rfl (fun w' hf => ?_) ?_
      rotate_left
      · have t0 := (HBT.out.next hf.only.below0).cell 0; go_simp
        try rfl
      try simp only [Act.put, List.setIfInBounds_toArray, List.set_cons_zero, List.set_cons_succ]
      --#14
      refine lex_val (v := .bool false) rfl rfl (fun w' hf => ?_) ?_
      · go_simp
        try rfl
      try simp only [Act.put, List.setIfInBounds_toArray, List.set_cons_zero, List.set_cons_succ]
      refine lex_val (v := ?_) rfl rfl (fun w' hf => ?_) ?_
      rotate_left
      · go_simp
        try rfl
      try simp only [Act.put, List.setIfInBounds_toArray, List.set_cons_zero, List.set_cons_succ]
      refine lex_val (v := ?_) rfl rfl (fun w' hf => ?_) ?_
      rotate_left
      · go_simp
        try rfl
      try simp only [Act.put, List.setIfInBounds_toArray, List.set_cons_zero, List.set_cons_succ]
      refine lex_val (v := .bool false) rfl rfl (fun w' hf => ?_) ?_
      · go_simp
        try rfl
      try simp only [Act.put, List.setIfInBounds_toArray, List.set_cons_zero, List.set_cons_succ]
      refine lex_val (v := ?_) rfl rfl (fun w' hf => ?_) ?_
      rotate_left
      · go_simp
        try rfl
      try simp only [Act.put, List.setIfInBounds_toArray, List.set_cons_zero, List.set_cons_succ]
      refine lex_val (v := ?_) rfl rfl (fun w' hf => ?_) ?_
      rotate_left
      · go_simp
        try rfl
      try simp only [Act.put, List.setIfInBounds_toArray, List.set_cons_zero, List.set_cons_succ]
      refine lex_val (v := ?_) rfl rfl (fun w' hf => ?_) ?_
      rotate_left
      · go_simp
        try rfl
      try simp only [Act.put, List.setIfInBounds_toArray, List.set_cons_zero, List.set_cons_succ]
      refine lex_val (v := ?_) rfl rfl (fun w' hf => ?_) ?_
      rotate_left
      · go_simp
        try rfl
      try simp only [Act.put, List.setIfInBounds_toArray, List.set_cons_zero, List.set_cons_succ]
      refine lex_val (v := ?_) rfl rfl (fun w' hf => ?_) ?_
      rotate_left
      · have t1 := (HBT.out.next hf.only.below0).cell 1; go_simp
        try rfl
      try simp only [Act.put, List.setIfInBounds_toArray, List.set_cons_zero, List.set_cons_succ]
      --#15
      refine lex_val (v := .bool false) rfl rfl (fun w' hf => ?_) ?_
      · go_simp
        try rfl
      try simp only [Act.put, List.setIfInBounds_toArray, List.set_cons_zero, List.set_cons_succ]
      repeat (
        refine lex_val (v := ?_) rfl rfl (fun w' hf => ?_) ?_
        rotate_left
        · go_simp
          try rfl
        try simp only [Act.put, List.setIfInBounds_toArray, List.set_cons_zero, List.set_cons_succ])
      refine lex_nil fun w' he => ?_
      have HB5 := Lib.hid (HB4.out.trans (he.only.below0.mono HB4.out.size))
      clear he
      go_wp2_with fail
      go_roundw
      case rel => exact ⟨k + 1, by omega, by go_num, HB5.out⟩
      case measure => simp [intOf]; omega
    · obtain rfl : k = l.length := by omega
      go_wp2_with fail
      go_ret
      exact ⟨rfl, HB2.out.trans (HBk.out.mono HB2.out.size)⟩
end Go.Proofs.YtlhabooeeohniaaDoor

namespace Go.Proofs.YtlhabooeeohniaaDoor
open Go Go.RowKit

/-- After an act: the keys and the new list, the keys as they were and the old list. -/
structure PlayM (w W : World) (K KC : Nat) (A A' : Option Addr) (c : Nat) (T T' : List ByteArray) (lk lk' : Bool) : Prop where
  now : Both W K A' T' lk'
  was : Both W KC A T lk
  old : Blk W (K + 1) 29 #[.slice A (listU T).length c, .bool lk]
  low : Below w.heap.size w W
  far : 0 < (listU T').length → ∀ ad, A' = some ad → ad.block ≠ K + 1
  big : K + 2 ≤ W.heap.size
theorem PlayM.next {w W W' : World} {K KC : Nat} {A A' : Option Addr} {c : Nat} {T T' : List ByteArray} {lk lk' : Bool} (h : PlayM w W K KC A A' c T T' lk lk') (hb : Below W.heap.size W W') : PlayM w W' K KC A A' c T T' lk lk' :=
  ⟨h.now.next hb, h.was.next hb, h.old.next hb, h.low.trans (hb.mono h.low.size), h.far, Nat.le_trans h.big hb.size⟩
theorem PlayM.set {w W : World} {K KC : Nat} {A A' : Option Addr} {c : Nat} {T T' : List ByteArray} {lk lk' : Bool} (h : PlayM w W K KC A A' c T T' lk lk') (N i : Nat) (h1 : N ≠ K) (h2 : N ≠ KC) (h3 : N ≠ K + 1) (h4 : w.heap.size ≤ N)
    (h5 : 0 < (listU T').length → ∀ ad, A' = some ad → ad.block ≠ N) (h6 : 0 < (listU T).length → ∀ ad, A = some ad → ad.block ≠ N) (v : Value) : PlayM w (W.setCell ⟨N, i, none⟩ v) K KC A A' c T T' lk lk' :=
  ⟨h.now.set N i h1 h5 v, h.was.set N i h2 h6 v, h.old.far (p := ⟨N, i, none⟩) (fun e => h3 e.symm) v, h.low.setCell (p := ⟨N, i, none⟩) h4 v, h.far, by rw [setCell_size]; exact h.big⟩
theorem playM_mid {w w3 w2 : World} {K KC M : Nat} {A A' : Option Addr} {c : Nat} {T T' : List ByteArray} {lk lk' : Bool} (hbo : Both w2 K A' T' lk') (hfa : A' = A ∧ listU T' = listU T ∨ ∀ ad, A' = some ad → M ≤ ad.block) (hM : w3.heap.size ≤ M) (hg : w3.grownBy w2 (some K))
    (hbx : Blk w3 (K + 1) 29 #[.slice A (listU T).length c, .bool lk]) (hc : KeyB w3 KC T lk) (hb3 : Both w3 K A T lk) (hf : 0 < (listU T).length → ∀ ad, A = some ad → ad.block ≠ K + 1) (hak : 0 < (listU T).length → ∀ ad, A = some ad → ad.block < KC)
    (hlow : Below w.heap.size w w3) (hKw : w.heap.size ≤ K) (hK2 : K + 2 ≤ KC) (hs : KC < w3.heap.size) : PlayM w w2 K KC A A' c T T' lk lk' :=
  ⟨hbo, ⟨hc.grown hg (by omega), hb3.tx.grown hg hb3.far, fun hn ad e => by have := hak hn ad e; omega, hb3.short⟩, hbx.grown hg (fun e => by injection e with e; omega),
   hlow.trans (below_of_grown hg hlow.size hKw), fun hn ad e => by
     rcases hfa with ⟨e1, e2⟩ | h
     · exact hf (by rw [← e2]; exact hn) ad (by rw [← e1]; exact e)
     · have := h ad e; omega, by have := hg.size; omega⟩
/-- The letters' blocks lie apart from a box that was made ahead of the act. -/
theorem play_far {KC N M : Nat} {A A' : Option Addr} {T T' : List ByteArray} (hfa : A' = A ∧ listU T' = listU T ∨ ∀ ad, A' = some ad → M ≤ ad.block) (hN : N < M) (hak : 0 < (listU T).length → ∀ ad, A = some ad → ad.block < KC) (hK : KC < N) : 0 < (listU T').length → ∀ ad, A' = some ad → ad.block ≠ N := fun hn ad e => by
  rcases hfa with ⟨e1, e2⟩ | h
  · have := hak (by rw [← e2]; exact hn) ad (by rw [← e1]; exact e); omega
  · have := h ad e; omega
theorem same_both (T T' : List ByteArray) (lk lk' : Bool) (h : T.length = 15) (h' : T'.length = 15) : decide (listU T' = listU T ∧ lk' = lk) = decide (T' = T ∧ lk' = lk) := by
  rw [Bool.eq_iff_iff, decide_eq_true_eq, decide_eq_true_eq]
  exact ⟨fun ⟨a, b⟩ => ⟨listU_inj _ _ h' h a, b⟩, fun ⟨a, b⟩ => ⟨by rw [a], b⟩⟩
end Go.Proofs.YtlhabooeeohniaaDoor

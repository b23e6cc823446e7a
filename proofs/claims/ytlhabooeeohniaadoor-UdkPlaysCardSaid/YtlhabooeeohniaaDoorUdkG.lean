/-
  Keys: what is looked at, cleared, cloned.
  Keys: cleared, cloned, defined.
-/
import Derived.Test.YtlhabooeeohniaaDoorUdkE
import Derived.Laws.CopyRow
import Derived.Deep.WholeRow
namespace Go.Proofs.YtlhabooeeohniaaDoor
open Go Go.RowKit

/-- All cells of a box of keys. -/
theorem keyC_size (T : List ByteArray) (lk : Bool) (h : T.length = 15) : (keyC T lk).size = 16 := by unfold keyC; simp [h]
theorem info_keys : (Tryd.prog.info? 26).map (·.size) = some 16 := by kernel_rfl
theorem keyC_lk (T : List ByteArray) (lk : Bool) (h : T.length = 15) : (keyC T lk)[15]? = some (.bool lk) := by
  unfold keyC
  rw [List.getElem?_toArray, List.getElem?_append_right (by simp [h])]
  simp [h]
theorem KeyB.lock {w : World} {K : Nat} {T : List ByteArray} {lk : Bool} (h : KeyB w K T lk) : w.cell? ⟨K, 15, none⟩ = some (.bool lk) := by rw [h.1.cell 15]; exact keyC_lk T lk h.2
theorem KeyB.putLock {w : World} {K : Nat} {T : List ByteArray} {lk : Bool} (h : KeyB w K T lk) (on : Bool) : KeyB (w.setCell ⟨K, 15, none⟩ (.bool on)) K T on :=
  ⟨by
    have h1 := h.1.set_ 15 (.bool on)
    have e : (keyC T lk).setIfInBounds 15 (.bool on) = keyC T on := by
      unfold keyC
      rw [List.setIfInBounds_toArray, List.set_append_right _ _ (by simp [h.2])]
      simp [h.2]
    rwa [e] at h1, h.2⟩

theorem lock_any (K : Nat) (T : List ByteArray) (lk on : Bool) (w : World) (h : KeyB w K T lk) :
    Calls Tryd.prog 17 #[.pointer (some ⟨K, 0, none⟩), .bool on] w fun e w' => (∃ v, e = .returned v) ∧ KeyB w' K T on ∧ w.grownBy w' (some K) := by
  have c := h.lock
  have f := h.1.frozen 15
  have H := Lib.hid (h.putLock on)
  clear h
  go_enter Tryd.func17, Tryd.ntmps17
  go_wp2_with fail
  go_end0
  exact ⟨⟨_, rfl⟩, H.out, setCell_grown w K 15 _⟩
theorem locked_any (K : Nat) (T : List ByteArray) (lk : Bool) (w : World) (h : KeyB w K T lk) :
    Calls Tryd.prog 20 #[.pointer (some ⟨K, 0, none⟩)] w fun e w' => e = .returned (.bool lk) ∧ w = w' := by
  have c := h.lock
  clear h
  go_enter Tryd.func20, Tryd.ntmps20
  go_wp2_with fail
  go_ret
  exact ⟨rfl, rfl⟩
/-- A key's text; none: it has none. -/
def getU (T : List ByteArray) (key : Int) : ByteArray × Bool := if plc key < 0 then (⟨#[]⟩, false) else if T.getD (plc key).toNat ⟨#[]⟩ = ⟨#[]⟩ then (⟨#[]⟩, false) else (T.getD (plc key).toNat ⟨#[]⟩, true)
set_option maxHeartbeats 2000000 in
theorem uGet_any (K : Nat) (T : List ByteArray) (lk : Bool) (key : Int) (w : World) (h : KeyB w K T lk) (hn : Nums w) :
    Calls Tryd.prog 12 #[.pointer (some ⟨K, 0, none⟩), .int .i64 key] w fun e w' => e = .returned (.tuple #[.string (getU T key).1, .bool (getU T key).2]) ∧ w = w' := by
  have HP := Lib.hid (place_any key w hn)
  have HK := Lib.hid h
  obtain ⟨g, hg⟩ : ∃ g, g = getU T key := ⟨_, rfl⟩
  have hl := plc_le key
  rw [← hg]
  unfold getU at hg
  generalize plc key = p at *
  clear h hn
  by_cases hp : p < 0
  · rw [if_pos hp] at hg
    subst hg
    --#1
    go_enter Tryd.func12, Tryd.ntmps12
    go_wp2_with (refine HP.out.mono ?_; rintro e w' ⟨rfl, rfl⟩)
    go_ret2
    exact ⟨rfl, rfl⟩
  · rw [if_neg hp] at hg
    obtain ⟨k, rfl⟩ : ∃ k : Nat, p = k := ⟨p.toNat, by omega⟩
    have hk : k < 15 := by omega
    have c := HK.out.text k hk
    have hgd : T.getD ((k : Int)).toNat ⟨#[]⟩ = T[k]'(by rw [HK.out.2]; exact hk) := by
      rw [Int.toNat_natCast, List.getD_eq_getElem?_getD, List.getElem?_eq_getElem (by rw [HK.out.2]; exact hk)]; rfl
    rw [hgd] at hg
    generalize T[k]'(by rw [HK.out.2]; exact hk) = t at *
    have h0 : (0 : Int) ≤ (k : Int) := by omega
    have h15 : (k : Int) < 15 := by omega
    clear hgd hl
    by_cases ht : t = ⟨#[]⟩
    · rw [if_pos ht] at hg
      subst hg ht
      --#2
      go_enter Tryd.func12, Tryd.ntmps12
      go_wp2_with (refine HP.out.mono ?_; rintro e w' ⟨rfl, rfl⟩)
      go_ret2
      exact ⟨rfl, rfl⟩
    · rw [if_neg ht] at hg
      subst hg
      have he : t.toList.isEmpty = false := by
        cases h : t.toList with
        | nil =>
          exfalso; apply ht
          rw [ByteArray.toList_eq] at h
          obtain ⟨⟨l⟩⟩ := t
          simp at h
          rw [h]
        | cons => rfl
      clear ht
      --#3
      go_enter Tryd.func12, Tryd.ntmps12
      go_wp2_with (refine HP.out.mono ?_; rintro e w' ⟨rfl, rfl⟩)
      go_ret2
      exact ⟨rfl, rfl⟩

/-- The fifteen texts, loaded at once. -/
theorem info_texts : (Tryd.prog.info? 24).map (·.size) = some 15 := by kernel_rfl
def txtV (T : List ByteArray) : Value := .agg (T.map Value.string).toArray
theorem load_texts {w : World} {K : Nat} {T : List ByteArray} {lk : Bool} (h : KeyB w K T lk) : (loadVar 24 ⟨K, 0, none⟩).run Tryd.prog w = .ok (txtV T) w := by
  have hl : (loadCells ⟨K, 0, none⟩ (T.map Value.string).length).run Tryd.prog w = .ok (T.map Value.string).toArray w :=
    run_loadCells_list w ⟨K, 0, none⟩ (T.map Value.string) (fun j v hv => by
      have hadd : (⟨K, 0, none⟩ : Addr).add j = ⟨K, j, none⟩ := by unfold Addr.add; split <;> simp_all
      have hj : j < T.length := by
        rcases Nat.lt_or_ge j T.length with h' | h'
        · exact h'
        · rw [List.getElem?_eq_none (by simpa using h')] at hv; cases hv
      rw [hadd, h.1.cell j, keyC_at T lk j hj]
      simpa [hj] using hv)
  obtain ⟨i, hq, hs⟩ := Option.map_eq_some_iff.1 info_texts
  have hagg : (isAgg 24).run Tryd.prog w = .ok true w := by kernel_rfl
  rw [List.length_map, h.2] at hl
  simp only [loadVar, Sem.run_bind, hagg, Result.andThen_ok, sizeOf, typeInfo]
  simp [hq, hs, hl, txtV]
theorem wpList_load_texts {ops : Array Oper} {rest : List Oper} {o : Oper} {a : Act} {w : World} {Q : Exit → Act → World → Prop} {K : Nat} {T : List ByteArray} {lk : Bool} (h : KeyB w K T lk) (hgd : o.guard = none) (x : Operand) (ho : o.op = .load 24 x)
    (hx : a.eval x = .pointer (some ⟨K, 0, none⟩)) (hk : wpList Tryd.prog ops Q rest (a.put o.dst (txtV T)) w) : wpList Tryd.prog ops Q (o :: rest) a w :=
  wpList_plain hgd fun _ hK => by
    unfold Oper.wp execOp
    simp only [ho, hx, Instr.loadAt, Instr.sureAddr, Sem.run_bind, Sem.run_pure, Result.andThen_ok, load_texts h]
    exact hK _ _ hk
theorem idx15 (t0 t1 t2 t3 t4 t5 t6 t7 t8 t9 t10 t11 t12 t13 t14 : ByteArray) : ∀ (k : Nat), k < 15 → ∀ (w : World), (Instr.index 24 (txtV [t0, t1, t2, t3, t4, t5, t6, t7, t8, t9, t10, t11, t12, t13, t14]) (.int .i64 k)).run Tryd.prog w = .ok (.string ([t0, t1, t2, t3, t4, t5, t6, t7, t8, t9, t10, t11, t12, t13, t14].getD k ⟨#[]⟩)) w
  | 0, _, _ => by kernel_rfl | 1, _, _ => by kernel_rfl | 2, _, _ => by kernel_rfl | 3, _, _ => by kernel_rfl | 4, _, _ => by kernel_rfl
  | 5, _, _ => by kernel_rfl | 6, _, _ => by kernel_rfl | 7, _, _ => by kernel_rfl | 8, _, _ => by kernel_rfl | 9, _, _ => by kernel_rfl
  | 10, _, _ => by kernel_rfl | 11, _, _ => by kernel_rfl | 12, _, _ => by kernel_rfl | 13, _, _ => by kernel_rfl | 14, _, _ => by kernel_rfl
theorem list15 {α : Type} (T : List α) (hT : T.length = 15) : ∃ t0 t1 t2 t3 t4 t5 t6 t7 t8 t9 t10 t11 t12 t13 t14, T = [t0, t1, t2, t3, t4, t5, t6, t7, t8, t9, t10, t11, t12, t13, t14] := by
  rcases T with _ | ⟨t0, _ | ⟨t1, _ | ⟨t2, _ | ⟨t3, _ | ⟨t4, _ | ⟨t5, _ | ⟨t6, _ | ⟨t7, _ | ⟨t8, _ | ⟨t9, _ | ⟨t10, _ | ⟨t11, _ | ⟨t12, _ | ⟨t13, _ | ⟨t14, _ | ⟨t15, T⟩⟩⟩⟩⟩⟩⟩⟩⟩⟩⟩⟩⟩⟩⟩⟩ <;> simp at hT
  exact ⟨_, _, _, _, _, _, _, _, _, _, _, _, _, _, _, rfl⟩
theorem idx_texts (T : List ByteArray) (hT : T.length = 15) (k : Nat) (hk : k < 15) (w : World) : (Instr.index 24 (txtV T) (.int .i64 k)).run Tryd.prog w = .ok (.string (T[k]'(by rw [hT]; exact hk))) w := by
  have e : T[k]'(by rw [hT]; exact hk) = T.getD k ⟨#[]⟩ := by rw [List.getD_eq_getElem?_getD, List.getElem?_eq_getElem (by rw [hT]; exact hk)]; rfl
  rw [e]
  obtain ⟨t0, t1, t2, t3, t4, t5, t6, t7, t8, t9, t10, t11, t12, t13, t14, rfl⟩ := list15 T hT
  exact idx15 _ _ _ _ _ _ _ _ _ _ _ _ _ _ _ k hk w
/-- How many bytes texts have. -/
def usedT (T : List ByteArray) : Nat := (T.map (·.size)).sum
theorem used_cut (T : List ByteArray) (k : Nat) (h : k < T.length) : usedT (T.take (k + 1)) = usedT (T.take k) + (T[k]).size := by
  unfold usedT
  rw [List.take_succ_eq_append_getElem h, List.map_append, List.sum_append]
  rfl
theorem used_mono (T : List ByteArray) (k : Nat) : usedT (T.take k) ≤ usedT T := by
  unfold usedT
  conv => rhs; rw [← List.take_append_drop k T]
  rw [List.map_append, List.sum_append]
  omega
set_option maxHeartbeats 2000000 in
theorem space_any (K : Nat) (T : List ByteArray) (lk : Bool) (w : World) (h : KeyB w K T lk) (hz : usedT T ≤ 10000000000) :
    Calls Tryd.prog 16 #[.pointer (some ⟨K, 0, none⟩)] w fun e w' => e = .returned (.int .i64 (804 - (usedT T : Int))) ∧ w = w' := by
  have HK := Lib.hid h
  have hT := h.2
  have HI := Lib.hid (fun k hk W => idx_texts T hT k hk W)
  clear h
  generalize htv : txtV T = tv at *
  go_enter Tryd.func16, Tryd.ntmps16
  go_upto_region 3 with (with_reducible refine wpList_load_texts HK.out rfl _ rfl rfl ?_; rw [htv])
  --#4
  go_loopw [3, 10] (fun v i wr => ∃ k : Nat, k ≤ 15 ∧ v = .int .i64 (804 - (usedT (T.take k) : Int)) ∧ i = .int .i64 k ∧ w = wr) (fun _ i _ => 15 - (intOf i).toNat)
  case atStart => exact ⟨0, by omega, by simp [usedT], rfl, rfl⟩
  case round =>
    obtain ⟨k, hk, rfl, rfl, rfl⟩ := hrel
    by_cases hlt : k < 15
    · have hi := HI.out k hlt
      have hu := used_cut T k (by omega)
      have hm := used_mono T (k + 1)
      have hwk : IntKind.i64.wrap ((k : Int) + 1) = (k : Int) + 1 := IntWalk.i64_in _ (by omega)
      have hwn : IntKind.i64.wrap (804 - (usedT (T.take k) : Int) - ((T[k]'(by omega)).size : Int)) = 804 - (usedT (T.take (k + 1)) : Int) := (IntWalk.i64_in _ (by omega)).trans (by omega)
      have hls : (T[k]'(by omega)).size ≤ 10000000000 := by omega
      generalize T[k]'(by omega) = t at *
      clear hu hm
      generalize hu1 : usedT (T.take (k + 1)) = u1 at *
      replace hu1 := Lib.hid hu1
      generalize usedT (T.take k) = u0 at *
      replace HK := HK
      --#5
      go_wp2_with fail
      go_roundw
      case rel => exact ⟨k + 1, by omega, by rw [hu1.out], by go_num, by first | rfl | trivial⟩
      case measure => simp [intOf]; omega
    · obtain rfl : k = 15 := by omega
      have e : T.take 15 = T := List.take_of_length_le (by omega)
      rw [e]
      go_wp2_with fail
      go_ret
      exact ⟨rfl, rfl⟩
end Go.Proofs.YtlhabooeeohniaaDoor

namespace Go.Proofs.YtlhabooeeohniaaDoor
open Go Go.RowKit

theorem keyUnder : Tryd.prog.underlying 26 = some (.struct (Tryd.prog.fieldsOf 26)) := by kernel_rfl
theorem info_key (T : List ByteArray) (lk : Bool) (h : T.length = 15) : (Tryd.prog.info? 26).map (·.size) = some (keyC T lk).size := by rw [keyC_size T lk h]; exact info_keys
theorem key_one (T : List ByteArray) (lk : Bool) : (keyC T lk).all (·.oneCell') = true := by
  unfold keyC
  rw [Array.all_eq_true_iff_forall_mem]
  intro x hx
  simp only [List.mem_toArray, List.mem_append, List.mem_map, List.mem_singleton] at hx
  rcases hx with ⟨t, _, rfl⟩ | rfl <;> rfl
theorem setRow_grown (w : World) (g : Nat) (cs : Array Value) : w.grownBy (w.setRow g cs) (some g) :=
  ⟨rfl, rfl, rfl, by simp [World.setRow], fun k _ hne => by
    show (w.heap.modify g _)[k]? = _
    rw [Array.getElem?_modify, if_neg (fun e => hne (by rw [e]))]⟩
theorem KeyB.row {w : World} {K : Nat} {T T2 : List ByteArray} {lk lk2 : Bool} (h : KeyB w K T lk) (h2 : T2.length = 15) : KeyB (w.setRow K (keyC T2 lk2)) K T2 lk2 :=
  ⟨setRow_heap w K _ _ _ _ h.1, h2⟩
theorem KeyB.new (w : World) (T : List ByteArray) (lk : Bool) (h : T.length = 15) : KeyB (w.alloc (.cells (keyC T lk) 26)) w.heap.size T lk := ⟨Blk.new _ _ _, h⟩
theorem KeyB.next {w w' : World} {K : Nat} {T : List ByteArray} {lk : Bool} (h : KeyB w K T lk) (hb : Below w.heap.size w w') : KeyB w' K T lk := ⟨h.1.next hb, h.2⟩
theorem KeyB.grown {w w' : World} {K L : Nat} {T : List ByteArray} {lk : Bool} (h : KeyB w K T lk) (hb : w.grownBy w' (some L)) (hne : K ≠ L) : KeyB w' K T lk := ⟨h.1.grown hb (fun e => hne (by injection e)), h.2⟩
def noT : List ByteArray := List.replicate 15 ⟨#[]⟩
theorem noT_len : noT.length = 15 := rfl

theorem store_texts {w : World} {K : Nat} {T : List ByteArray} {lk : Bool} (h : KeyB w K T lk) (T2 : List ByteArray) (h2 : T2.length = 15) : (storeVar 24 ⟨K, 0, none⟩ (txtV T2)).run Tryd.prog w = .ok () (w.setRow K (keyC T2 lk)) := by
  have hs := run_storeCells_at (P := Tryd.prog) K 0 26 (T2.map Value.string) 0 (keyC T lk) w h.1 (by rw [keyC_size T lk h.2]; simp [h2]) (fun v hv => by
    obtain ⟨t, _, rfl⟩ := List.mem_map.1 hv; rfl)
  have e : ((keyC T lk).toList.take (0 + 0) ++ T2.map Value.string ++ (keyC T lk).toList.drop (0 + 0 + (T2.map Value.string).length)).toArray = keyC T2 lk := by
    unfold keyC
    simp [h2, h.2]
  rw [e] at hs
  obtain ⟨i, hq, hz⟩ := Option.map_eq_some_iff.1 info_texts
  simp [storeVar, sizeOf, typeInfo, hq, txtV, Value.cells, hz, h2, hs]
theorem wpList_store_texts {ops : Array Oper} {rest : List Oper} {o : Oper} {a : Act} {w : World} {Q : Exit → Act → World → Prop} {K : Nat} {T : List ByteArray} {lk : Bool} (h : KeyB w K T lk) (T2 : List ByteArray) (h2 : T2.length = 15) (hgd : o.guard = none) (x y : Operand) (ho : o.op = .store 24 x y)
    (hx : a.eval x = .pointer (some ⟨K, 0, none⟩)) (hy : a.eval y = txtV T2) (hk : wpList Tryd.prog ops Q rest (a.put o.dst undef) (w.setRow K (keyC T2 lk))) : wpList Tryd.prog ops Q (o :: rest) a w :=
  wpList_plain hgd fun _ hK => by
    unfold Oper.wp execOp
    simp only [ho, hx, hy, Instr.storeAt, Instr.sureAddr, Sem.run_bind, Sem.run_pure, Result.andThen_ok, store_texts h T2 h2]
    exact hK _ _ hk
theorem clearU_any (K : Nat) (T : List ByteArray) (lk : Bool) (w : World) (h : KeyB w K T lk) :
    Calls Tryd.prog 21 #[.pointer (some ⟨K, 0, none⟩)] w fun e w' => (∃ v, e = .returned v) ∧ KeyB w' K noT lk ∧ w.grownBy w' (some K) := by
  have HK := Lib.hid h
  clear h
  --#1
  go_enter Tryd.func21, Tryd.ntmps21
  go_wp2_with (refine wpList_store_texts HK.out noT noT_len rfl _ _ rfl rfl rfl ?_)
  go_end0
  exact ⟨⟨_, rfl⟩, HK.out.row noT_len, setRow_grown w K _⟩
set_option maxRecDepth 100000 in
set_option maxHeartbeats 2000000 in
theorem cloneU_any (K : Nat) (T : List ByteArray) (lk : Bool) (w : World) (h : KeyB w K T lk) :
    Calls Tryd.prog 7 #[.pointer (some ⟨K, 0, none⟩)] w fun e w' => e = .returned (.pointer (some ⟨w.heap.size, 0, none⟩)) ∧ KeyB w' w.heap.size T lk ∧ Below w.heap.size w w' ∧ w.heap.size < w'.heap.size := by
  have HK := Lib.hid h
  have HN := Lib.hid (KeyB.new w T lk h.2)
  have hI := info_key T lk h.2
  have hz := keyC_size T lk h.2
  have h1 := key_one T lk
  have HK1 : Hid (Blk w K 26 (keyC T lk)) := Lib.hid h.1
  replace HN : Hid (Blk (w.alloc (.cells (keyC T lk) 26)) w.heap.size 26 (keyC T lk)) := Lib.hid (Blk.new _ _ _)
  obtain ⟨cs, hcs⟩ : ∃ cs, cs = keyC T lk := ⟨_, rfl⟩
  rw [← hcs] at hI hz h1 HK1 HN
  replace hcs := Lib.hid hcs
  clear h
  go_enter Tryd.func7, Tryd.ntmps7
  go_wp2_with (first | (refine wpList_load_row rfl _ _ rfl K rfl _ cs (0, 0) _ HK1.out keyUnder rfl hI ?_) | (refine wpList_store_row rfl _ _ _ rfl w.heap.size cs rfl rfl _ _ (Blk.new _ _ _) hI (by rw [hz]; rfl) h1 ?_))
  go_ret
  rw [World.setRow_alloc_new]
  exact ⟨rfl, ⟨by rw [← hcs.out]; exact HN.out, HK.out.2⟩, (Below.refl _ _).alloc (Nat.le_refl _) _, by simp⟩

theorem _root_.Go.World.grownBy.old {A B : World} {N : Nat} (h : A.grownBy B (some N)) (hN : A.heap.size ≤ N) (K : Nat) : A.grownBy B (some K) :=
  ⟨h.os, h.tape, h.output, h.size, fun k hk _ => h.block k hk (fun e => by injection e with e; omega)⟩
theorem grown_join {A B C : World} {K : Nat} (h : A.grownBy B (some K)) (k : B.grownBy C (some K)) : A.grownBy C (some K) := grown_far h k (fun r e => .inr (by cases e; rfl))
/-- What Define leaves: the error, the texts, the lock. -/
def defU (T : List ByteArray) (lk cl lo : Bool) (l : List Nat) : Int × List ByteArray × Bool := match takeU (if cl then noT else T) (pcs l) with
  | none => (3, T, lk)
  | some T' => if 804 < usedT T' then (5, T, lk) else if lk then (6, T, lk) else (0, T', lo)
theorem cutQ_len (l : List Nat) : (cutQ l).2.1.length ≤ l.length := by
  induction l with
  | nil => simp [cutQ]
  | cons c l ih =>
    unfold cutQ
    split
    · simp
    · simp only [List.length_cons]; omega
theorem fhU_len : ∀ (l b : List Nat), fhL l = some b → l.length = 2 * b.length
  | [], b, h => by simp [fhL] at h; subst h; rfl
  | [_], b, h => by simp [fhL] at h
  | x :: y :: l, b, h => by
    unfold fhL at h
    split at h
    · cases hl : fhL l with
      | none => rw [hl] at h; cases h
      | some m =>
        rw [hl] at h
        injection h with h
        subst h
        have := fhU_len l m hl
        simp only [List.length_cons, this]
        omega
    · cases h
theorem defS_len (x : List Nat) (k : Nat) (b : List Nat) (h : defS x = some (k, b)) : b.length ≤ x.length := by
  unfold defS defP at h
  split at h
  · split at h
    · cases hf : fhL (cutQ x).2.1 with
      | none => rw [hf] at h; cases h
      | some z =>
        rw [hf] at h; injection h with h; injection h with h1 h2
        have := fhU_len _ _ hf
        have := cutQ_len x
        subst h2
        omega
    · cases h
  · cases h
theorem pcs_len (l : List Nat) : ∀ x ∈ pcs l, x.length ≤ l.length := by
  induction l with
  | nil => intro x hx; simp [pcs] at hx; subst hx; simp
  | cons c l ih =>
    intro x hx
    unfold pcs at hx
    split at hx
    · rcases List.mem_cons.1 hx with rfl | hx
      · simp
      · have := ih x hx; simp only [List.length_cons]; omega
    · cases hp : pcs l with
      | nil => rw [hp] at hx; simp at hx; subst hx; simp
      | cons p ps =>
        rw [hp] at hx ih
        rcases List.mem_cons.1 hx with rfl | hx
        · have := ih p (by simp); simp only [List.length_cons]; omega
        · have := ih x (by simp [hx]); simp only [List.length_cons]; omega
/-- Texts that are no longer than may come in. -/
def ShortT (T : List ByteArray) : Prop := T.length = 15 ∧ ∀ t ∈ T, t.size ≤ 100000
theorem noT_short : ShortT noT := ⟨rfl, fun t h => by
  obtain ⟨_, rfl⟩ := List.mem_replicate.1 h
  decide⟩
theorem stepU_short (T : List ByteArray) (x : List Nat) (T' : List ByteArray) (hT : ShortT T) (hx : x.length ≤ 100000) (h : stepU T x = some T') : ShortT T' := by
  unfold stepU at h
  split at h
  · injection h with h; subst h; exact hT
  · cases hd : defS x with
    | none => rw [hd] at h; cases h
    | some p =>
      rw [hd] at h; injection h with h; subst h
      have := defS_len x p.1 p.2 hd
      refine ⟨by rw [List.length_set]; exact hT.1, fun t ht => ?_⟩
      rcases List.mem_or_eq_of_mem_set ht with h | rfl
      · exact hT.2 t h
      · rw [bstr_size]; omega
theorem takeU_cons (T : List ByteArray) (x : List Nat) (l : List (List Nat)) : takeU T (x :: l) = (stepU T x).bind fun T => takeU T l := by
  unfold takeU
  rw [List.foldl_cons]
  show l.foldl _ (stepU T x) = _
  cases stepU T x with
  | some T1 => rfl
  | none =>
    show l.foldl _ none = none
    induction l with
    | nil => rfl
    | cons y l ih => exact ih
theorem takeU_short : ∀ (l : List (List Nat)) (T T' : List ByteArray), ShortT T → (∀ x ∈ l, x.length ≤ 100000) → takeU T l = some T' → ShortT T'
  | [], T, T', hT, _, h => by injection h with h; subst h; exact hT
  | x :: l, T, T', hT, hl, h => by
    rw [takeU_cons] at h
    cases hs : stepU T x with
    | none => rw [hs] at h; cases h
    | some T1 =>
      rw [hs] at h
      exact takeU_short l T1 T' (stepU_short T x T1 hT (hl x (by simp)) hs) (fun y hy => hl y (by simp [hy])) h
theorem usedT_le : ∀ (T : List ByteArray), (∀ t ∈ T, t.size ≤ 100000) → usedT T ≤ T.length * 100000
  | [], _ => by simp [usedT]
  | t :: T, h => by
    have h1 := usedT_le T (fun x hx => h x (by simp [hx]))
    have h2 := h t (by simp)
    have h3 : usedT (t :: T) = t.size + usedT T := rfl
    rw [h3, List.length_cons]
    omega
theorem ShortT.used {T : List ByteArray} (h : ShortT T) : usedT T ≤ 10000000000 := by
  have := usedT_le T h.2
  rw [h.1] at this
  omega
theorem nb_len (s : ByteArray) : (nb s).length = s.size := by unfold nb; rw [natB_len]
theorem defU_short (T : List ByteArray) (lk cl lo : Bool) (l : List Nat) (hT : ShortT T) (hl : l.length ≤ 100000) : ShortT (defU T lk cl lo l).2.1 := by
  unfold defU
  split
  · exact hT
  · rename_i T' h
    have hs := takeU_short _ _ _ (by cases cl; exact hT; exact noT_short) (fun x hx => Nat.le_trans (pcs_len l x hx) hl) h
    split
    · exact hT
    · split
      · exact hT
      · exact hs

set_option maxRecDepth 100000 in
set_option maxHeartbeats 4000000 in
theorem define_any (K : Nat) (T : List ByteArray) (lk cl lo : Bool) (s : ByteArray) (hs : s.size ≤ 100000) (w : World) (h : KeyB w K T lk) (hT : ShortT T) (hu : UEnv w) (_hfar : FarU K) :
    Calls Tryd.prog 15 #[.pointer (some ⟨K, 0, none⟩), .bool cl, .bool lo, .string s] w fun e w' => e = .returned (.int .i64 (defU T lk cl lo (nb s)).1) ∧ KeyB w' K (defU T lk cl lo (nb s)).2.1 (defU T lk cl lo (nb s)).2.2 ∧ w.grownBy w' (some K) := by
  obtain ⟨R, hR⟩ : ∃ R, R = defU T lk cl lo (nb s) := ⟨_, rfl⟩
  rw [← hR]
  have hsh : ∀ T', takeU (if cl then noT else T) (pcs (nb s)) = some T' → ShortT T' := fun T' h => takeU_short _ _ _ (by cases cl; exact hT; exact noT_short) (fun x hx => by have := pcs_len _ x hx; rw [nb_len] at this; omega) h
  unfold defU at hR
  have HTk := Lib.hid (fun N T0 W k u f => take_any N T0 lk s hs W k u f)
  have hKw := h.1.lt
  have hNf : FarU w.heap.size := by
    obtain ⟨⟨h1, _⟩, ⟨h2, _⟩, h3, _⟩ := hu
    exact ⟨fun e => by omega, fun e => by omega, fun e => by omega⟩
  have HK := Lib.hid h; have HU := Lib.hid hu; have HSh := Lib.hid hsh
  obtain ⟨N, hN⟩ : ∃ N, N = w.heap.size := ⟨_, rfl⟩
  have hKN : K ≠ N := by omega
  have HN1 : Hid (KeyB (w.alloc (.cells (keyC T lk) 26)) N T lk) := Lib.hid (by rw [hN]; exact KeyB.new w T lk hT.1)
  have hI := info_key T lk hT.1
  have hz := keyC_size T lk hT.1
  have h1 := key_one T lk
  have HT := Lib.hid hT
  clear h hu hT hsh
  generalize hcs : keyC T lk = cs at *
  have HK1 : Hid (Blk w K 26 cs) := Lib.hid (by rw [← hcs]; exact HK.out.1)
  replace hcs := Lib.hid hcs
  generalize htk : takeU (if cl then noT else T) (pcs (nb s)) = o at *
  have HTK := Lib.hid htk; have HR := Lib.hid hR
  clear htk hR
  --#2
  go_enter Tryd.func15, Tryd.ntmps15
  go_upto_region 2 with (first | (refine wpList_load_row rfl _ _ rfl K rfl _ cs (0, 0) _ HK1.out keyUnder rfl hI ?_) | (refine wpList_store_row rfl _ _ _ rfl w.heap.size cs rfl rfl _ _ (Blk.new _ _ _) hI (by rw [hz]; rfl) h1 ?_))
  rw [World.setRow_alloc_new, ← hN]
  have hWb : Below w.heap.size w (w.alloc (.cells cs 26)) := (Below.refl _ _).alloc (Nat.le_refl _) _
  generalize (w.alloc (.cells cs 26)) = W1 at *
  have HW := Lib.hid hWb
  have HNf : Hid (FarU N) := Lib.hid (by rw [hN]; exact hNf)
  replace hN := Lib.hid hN
  clear hWb hI hz h1 hNf
  have HC := Lib.hid (clearU_any N T lk W1 HN1.out)
  have hcl : ∃ T0, (if cl then noT else T) = T0 := ⟨_, rfl⟩
  obtain ⟨T0, hT0⟩ := hcl
  rw [hT0] at HTK
  --#3
  rcases cl with _ | _
  · obtain rfl : T = T0 := hT0
    go_upto_region 4 with fail
    generalize W1 = W2 at *
    have HN2 := HN1
    have HG2 : Hid (w.grownBy W2 (some N)) := Lib.hid (grown_b HW.out (Nat.le_refl _))
    clear HC HW HN1
    have HTt := Lib.hid (HTk.out N _ W2 HN2.out (HU.out.grown HG2.out HNf.out) HNf.out)
    rw [HTK.out] at HTt
    clear HTk
    --#4
    rcases o with _ | T'
    · have HTn : Hid (Calls Tryd.prog 26 #[.pointer (some ⟨N, 0, none⟩), .string s] W2 fun e w' => (e = .returned (.int .i64 3) ∧ ∃ T', KeyB w' N T' lk) ∧ W2.grownBy w' (some N)) := HTt
      clear HTt
      go_wp2_with fail
      refine HTn.out.mono ?_
      rintro e W3 ⟨⟨rfl, _⟩, hg3⟩
      have HG3 : Hid (w.grownBy W3 (some N)) := Lib.hid (grown_far HG2.out hg3 (fun r e => .inr (by cases e; rfl)))
      clear hg3
      go_wp2_with fail
      go_ret
      rw [HR.out]
      exact ⟨rfl, HK.out.grown HG3.out hKN, HG3.out.old (by rw [hN.out]; exact Nat.le_refl _) K⟩
    · have HTn : Hid (Calls Tryd.prog 26 #[.pointer (some ⟨N, 0, none⟩), .string s] W2 fun e w' => (e = .returned (.int .i64 0) ∧ KeyB w' N T' lk) ∧ W2.grownBy w' (some N)) := HTt
      have HS' := Lib.hid (HSh.out T' rfl)
      have HRn : Hid (R = if 804 < usedT T' then (5, T, lk) else if lk then (6, T, lk) else (0, T', lo)) := HR
      clear HTt HR
      go_wp2_with fail
      refine HTn.out.mono ?_
      rintro e W3 ⟨⟨rfl, hn3⟩, hg3⟩
      have HN3 := Lib.hid hn3
      have HG3 : Hid (w.grownBy W3 (some N)) := Lib.hid (grown_far HG2.out hg3 (fun r e => .inr (by cases e; rfl)))
      clear hg3 hn3 HTn
      have HSp := Lib.hid (space_any N T' lk W3 HN3.out HS'.out.used)
      have hus := HS'.out.used
      generalize hu8 : usedT T' = u at *
      --#5
      by_cases hbig : 804 < u
      · have hb1 : (804 : Int) - (u : Int) < 0 := by omega
        have HRR : Hid (R = (5, T, lk)) := Lib.hid (by rw [HRn.out, if_pos hbig])
        clear hbig
        go_wp2_with fail
        refine HSp.out.mono ?_
        rintro e W4 ⟨rfl, rfl⟩
        go_wp2_with fail
        go_ret
        rw [HRR.out]
        exact ⟨rfl, HK.out.grown HG3.out hKN, HG3.out.old (by rw [hN.out]; exact Nat.le_refl _) K⟩
      · have hb1 : ¬ (804 : Int) - (u : Int) < 0 := by omega
        have HRR : Hid (R = if lk then (6, T, lk) else (0, T', lo)) := Lib.hid (by rw [HRn.out, if_neg hbig])
        have hk3 := HK.out.grown HG3.out hKN
        have c15 := hk3.lock
        clear hbig
        --#6
        go_wp2_with fail
        refine HSp.out.mono ?_
        rintro e W4 ⟨rfl, rfl⟩
        rcases lk with _ | _
        · have n15 := HN3.out.lock
          have z15 := HN3.out.1.frozen 15
          have HN4 := Lib.hid (HN3.out.putLock lo)
          have HK4 : Hid (KeyB (W3.setCell ⟨N, 15, none⟩ (.bool lo)) K T false) := Lib.hid (hk3.grown (setCell_grown W3 N 15 _) hKN)
          have HG4 : Hid (w.grownBy (W3.setCell ⟨N, 15, none⟩ (.bool lo)) (some N)) := Lib.hid (grown_far HG3.out (setCell_grown W3 N 15 _) (fun r e => .inr (by cases e; rfl)))
          have hi4 := info_key T' lo HS'.out.1
          have hz4 := keyC_size T' lo HS'.out.1
          have h14 := key_one T' lo
          have hz5 := keyC_size T false HT.out.1
          have HN5 : Hid (Blk (W3.setCell ⟨N, 15, none⟩ (.bool lo)) N 26 (keyC T' lo)) := Lib.hid HN4.out.1
          have HK5 : Hid (Blk (W3.setCell ⟨N, 15, none⟩ (.bool lo)) K 26 (keyC T false)) := Lib.hid HK4.out.1
          clear hk3
          obtain ⟨cn, hcn⟩ : ∃ cn, cn = keyC T' lo := ⟨_, rfl⟩
          rw [← hcn] at hi4 hz4 h14 HN5
          have hcz : (keyC T false).size = cn.size := by rw [hz5, hz4]
          replace hcn := Lib.hid hcn
          clear hz5 hz4
          --#7
          go_wp2_with (first | (refine wpList_load_row rfl _ _ rfl N rfl _ cn (0, 0) _ HN5.out keyUnder rfl hi4 ?_) | (refine wpList_store_row rfl _ _ _ rfl K cn rfl rfl _ _ HK5.out hi4 hcz h14 ?_))
          go_ret
          have e5 : R = (0, T', lo) := HRR.out
          rw [e5, hcn.out]
          exact ⟨rfl, HK4.out.row HS'.out.1, grown_join (HG4.out.old (by rw [hN.out]; exact Nat.le_refl _) K) (setRow_grown _ K _)⟩
        · --#8
          go_wp2_with fail
          go_ret
          have e5 : R = (6, T, true) := HRR.out
          rw [e5]
          exact ⟨rfl, hk3, HG3.out.old (by rw [hN.out]; exact Nat.le_refl _) K⟩
  · obtain rfl : noT = T0 := hT0
    go_wp2_with fail
    refine HC.out.mono ?_
    rintro e W2 ⟨⟨_, rfl⟩, hn2, hg2⟩
    have HN2 := Lib.hid hn2
    have HG2 : Hid (w.grownBy W2 (some N)) := Lib.hid (grown_far (grown_b HW.out (Nat.le_refl _)) hg2 (fun r e => .inr (by cases e; rfl)))
    clear hn2 hg2 HC HW HN1
    go_upto_region 4 with fail
    have HTt := Lib.hid (HTk.out N _ W2 HN2.out (HU.out.grown HG2.out HNf.out) HNf.out)
    rw [HTK.out] at HTt
    clear HTk
    --#4
    rcases o with _ | T'
    · have HTn : Hid (Calls Tryd.prog 26 #[.pointer (some ⟨N, 0, none⟩), .string s] W2 fun e w' => (e = .returned (.int .i64 3) ∧ ∃ T', KeyB w' N T' lk) ∧ W2.grownBy w' (some N)) := HTt
      clear HTt
      go_wp2_with fail
      refine HTn.out.mono ?_
      rintro e W3 ⟨⟨rfl, _⟩, hg3⟩
      have HG3 : Hid (w.grownBy W3 (some N)) := Lib.hid (grown_far HG2.out hg3 (fun r e => .inr (by cases e; rfl)))
      clear hg3
      go_wp2_with fail
      go_ret
      rw [HR.out]
      exact ⟨rfl, HK.out.grown HG3.out hKN, HG3.out.old (by rw [hN.out]; exact Nat.le_refl _) K⟩
    · have HTn : Hid (Calls Tryd.prog 26 #[.pointer (some ⟨N, 0, none⟩), .string s] W2 fun e w' => (e = .returned (.int .i64 0) ∧ KeyB w' N T' lk) ∧ W2.grownBy w' (some N)) := HTt
      have HS' := Lib.hid (HSh.out T' rfl)
      have HRn : Hid (R = if 804 < usedT T' then (5, T, lk) else if lk then (6, T, lk) else (0, T', lo)) := HR
      clear HTt HR
      go_wp2_with fail
      refine HTn.out.mono ?_
      rintro e W3 ⟨⟨rfl, hn3⟩, hg3⟩
      have HN3 := Lib.hid hn3
      have HG3 : Hid (w.grownBy W3 (some N)) := Lib.hid (grown_far HG2.out hg3 (fun r e => .inr (by cases e; rfl)))
      clear hg3 hn3 HTn
      have HSp := Lib.hid (space_any N T' lk W3 HN3.out HS'.out.used)
      have hus := HS'.out.used
      generalize hu8 : usedT T' = u at *
      --#5
      by_cases hbig : 804 < u
      · have hb1 : (804 : Int) - (u : Int) < 0 := by omega
        have HRR : Hid (R = (5, T, lk)) := Lib.hid (by rw [HRn.out, if_pos hbig])
        clear hbig
        go_wp2_with fail
        refine HSp.out.mono ?_
        rintro e W4 ⟨rfl, rfl⟩
        go_wp2_with fail
        go_ret
        rw [HRR.out]
        exact ⟨rfl, HK.out.grown HG3.out hKN, HG3.out.old (by rw [hN.out]; exact Nat.le_refl _) K⟩
      · have hb1 : ¬ (804 : Int) - (u : Int) < 0 := by omega
        have HRR : Hid (R = if lk then (6, T, lk) else (0, T', lo)) := Lib.hid (by rw [HRn.out, if_neg hbig])
        have hk3 := HK.out.grown HG3.out hKN
        have c15 := hk3.lock
        clear hbig
        --#6
        go_wp2_with fail
        refine HSp.out.mono ?_
        rintro e W4 ⟨rfl, rfl⟩
        rcases lk with _ | _
        · have n15 := HN3.out.lock
          have z15 := HN3.out.1.frozen 15
          have HN4 := Lib.hid (HN3.out.putLock lo)
          have HK4 : Hid (KeyB (W3.setCell ⟨N, 15, none⟩ (.bool lo)) K T false) := Lib.hid (hk3.grown (setCell_grown W3 N 15 _) hKN)
          have HG4 : Hid (w.grownBy (W3.setCell ⟨N, 15, none⟩ (.bool lo)) (some N)) := Lib.hid (grown_far HG3.out (setCell_grown W3 N 15 _) (fun r e => .inr (by cases e; rfl)))
          have hi4 := info_key T' lo HS'.out.1
          have hz4 := keyC_size T' lo HS'.out.1
          have h14 := key_one T' lo
          have hz5 := keyC_size T false HT.out.1
          have HN5 : Hid (Blk (W3.setCell ⟨N, 15, none⟩ (.bool lo)) N 26 (keyC T' lo)) := Lib.hid HN4.out.1
          have HK5 : Hid (Blk (W3.setCell ⟨N, 15, none⟩ (.bool lo)) K 26 (keyC T false)) := Lib.hid HK4.out.1
          clear hk3
          obtain ⟨cn, hcn⟩ : ∃ cn, cn = keyC T' lo := ⟨_, rfl⟩
          rw [← hcn] at hi4 hz4 h14 HN5
          have hcz : (keyC T false).size = cn.size := by rw [hz5, hz4]
          replace hcn := Lib.hid hcn
          clear hz5 hz4
          --#7
          go_wp2_with (first | (refine wpList_load_row rfl _ _ rfl N rfl _ cn (0, 0) _ HN5.out keyUnder rfl hi4 ?_) | (refine wpList_store_row rfl _ _ _ rfl K cn rfl rfl _ _ HK5.out hi4 hcz h14 ?_))
          go_ret
          have e5 : R = (0, T', lo) := HRR.out
          rw [e5, hcn.out]
          exact ⟨rfl, HK4.out.row HS'.out.1, grown_join (HG4.out.old (by rw [hN.out]; exact Nat.le_refl _) K) (setRow_grown _ K _)⟩
        · --#8
          go_wp2_with fail
          go_ret
          have e5 : R = (6, T, true) := HRR.out
          rw [e5]
          exact ⟨rfl, hk3, HG3.out.old (by rw [hN.out]; exact Nat.le_refl _) K⟩
end Go.Proofs.YtlhabooeeohniaaDoor

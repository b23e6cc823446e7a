/-
  Keys: what is looked at, cleared, cloned.
  Keys: cleared, cloned, defined.
-/
import Derived.Test.YtigaaidacndeiaaGreatDoorUdkE
import Derived.Laws.CopyRow
import Derived.Deep.WholeRow
namespace Go.Proofs.YtigaaidacndeiaaGreatDoor

open Go Go.RowKit

/-- All cells of a box of keys. -/
theorem keyC_size (T : List ByteArray) (lk : Bool) (h : T.length = 15) : (keyC T lk).size = 16 := by unfold keyC; simp [h]
theorem info_keys : (Tryz.prog.info? 41).map (·.size) = some 16 := by kernel_rfl
theorem keyC_lk (T : List ByteArray) (lk : Bool) (h : T.length = 15) : (keyC T lk)[15]? = some (.bool lk) := by
  unfold keyC
  rw [List.getElem?_toArray, List.getElem?_append_right (by simp [h])]
  simp [h]
theorem KeyB.lock {w : World} {K : Nat} {T : List ByteArray} {lk : Bool} (h : KeyB w K T lk) : w.cell? ⟨K, 15, none⟩ = some (.bool lk) := by rw [h.1.cell 15]; exact keyC_lk T lk h.2
theorem KeyB.putLock {w : World} {K : Nat} {T : List ByteArray} {lk : Bool} (h : KeyB w K T lk) (on : Bool) : KeyB (w.setCell ⟨K, 15, none⟩ (.bool on)) K T on :=
  ⟨by
    have h1 := h.1.set_ 15 (.bool on)
    have e : (keyC T lk).setIfInBounds 15 (.bool on) = keyC T on := by
      unfold keyC
      rw [List.setIfInBounds_toArray, List.set_append_right _ _ (by simp [h.2])]
      simp [h.2]
    rwa [e] at h1, h.2⟩



/-- A key's text; none: it has none. -/
def getU (T : List ByteArray) (key : Int) : ByteArray × Bool := if plc key < 0 then (⟨#[]⟩, false) else if T.getD (plc key).toNat ⟨#[]⟩ = ⟨#[]⟩ then (⟨#[]⟩, false) else (T.getD (plc key).toNat ⟨#[]⟩, true)
set_option maxHeartbeats 2000000 in
theorem uGet_any (K : Nat) (T : List ByteArray) (lk : Bool) (key : Int) (w : World) (h : KeyB w K T lk) (hn : Nums w) :
    Calls Tryz.prog 97 #[.pointer (some ⟨K, 0, none⟩), .int .i64 key] w fun e w' => e = .returned (.tuple #[.string (getU T key).1, .bool (getU T key).2]) ∧ w = w' := by
  have HP := Lib.hid (place_any key w hn)
  have HK := Lib.hid h
  obtain ⟨g, hg⟩ : ∃ g, g = getU T key := ⟨_, rfl⟩
  have hl := plc_le key
  rw [← hg]
  unfold getU at hg
  generalize plc key = p at *
  clear h hn
  by_cases hp : p < 0
  · rw [if_pos hp] at hg
    subst hg
    --#1
    go_enter Tryz.func97, Tryz.ntmps97
    go_wp2_with (refine HP.out.mono ?_; rintro e w' ⟨rfl, rfl⟩)
    go_ret2
    exact ⟨rfl, rfl⟩
  · rw [if_neg hp] at hg
    obtain ⟨k, rfl⟩ : ∃ k : Nat, p = k := ⟨p.toNat, by omega⟩
    have hk : k < 15 := by omega
    have c := HK.out.text k hk
    have hgd : T.getD ((k : Int)).toNat ⟨#[]⟩ = T[k]'(by rw [HK.out.2]; exact hk) := by
      rw [Int.toNat_natCast, List.getD_eq_getElem?_getD, List.getElem?_eq_getElem (by rw [HK.out.2]; exact hk)]; rfl
    rw [hgd] at hg
    generalize T[k]'(by rw [HK.out.2]; exact hk) = t at *
    have h0 : (0 : Int) ≤ (k : Int) := by omega
    have h15 : (k : Int) < 15 := by omega
    clear hgd hl
    by_cases ht : t = ⟨#[]⟩
    · rw [if_pos ht] at hg
      subst hg ht
      --#2
      go_enter Tryz.func97, Tryz.ntmps97
      go_wp2_with (refine HP.out.mono ?_; rintro e w' ⟨rfl, rfl⟩)
      go_ret2
      exact ⟨rfl, rfl⟩
    · rw [if_neg ht] at hg
      subst hg
      have he : t.toList.isEmpty = false := by
        cases h : t.toList with
        | nil =>
          exfalso; apply ht
          rw [ByteArray.toList_eq] at h
          obtain ⟨⟨l⟩⟩ := t
          simp at h
          rw [h]
        | cons => rfl
      clear ht
      --#3
      go_enter Tryz.func97, Tryz.ntmps97
      go_wp2_with (refine HP.out.mono ?_; rintro e w' ⟨rfl, rfl⟩)
      go_ret2
      exact ⟨rfl, rfl⟩

/-- The fifteen texts, loaded at once. -/
theorem info_texts : (Tryz.prog.info? 39).map (·.size) = some 15 := by kernel_rfl
def txtV (T : List ByteArray) : Value := .agg (T.map Value.string).toArray
theorem load_texts {w : World} {K : Nat} {T : List ByteArray} {lk : Bool} (h : KeyB w K T lk) : (loadVar 39 ⟨K, 0, none⟩).run Tryz.prog w = .ok (txtV T) w := by
  have hl : (loadCells ⟨K, 0, none⟩ (T.map Value.string).length).run Tryz.prog w = .ok (T.map Value.string).toArray w :=
    run_loadCells_list w ⟨K, 0, none⟩ (T.map Value.string) (fun j v hv => by
      have hadd : (⟨K, 0, none⟩ : Addr).add j = ⟨K, j, none⟩ := by unfold Addr.add; split <;> simp_all
      have hj : j < T.length := by
        rcases Nat.lt_or_ge j T.length with h' | h'
        · exact h'
        · rw [List.getElem?_eq_none (by simpa using h')] at hv; cases hv
      rw [hadd, h.1.cell j, keyC_at T lk j hj]
      simpa [hj] using hv)
  obtain ⟨i, hq, hs⟩ := Option.map_eq_some_iff.1 info_texts
  have hagg : (isAgg 39).run Tryz.prog w = .ok true w := by kernel_rfl
  rw [List.length_map, h.2] at hl
  simp only [loadVar, Sem.run_bind, hagg, Result.andThen_ok, sizeOf, typeInfo]
  simp [hq, hs, hl, txtV]
theorem wpList_load_texts {ops : Array Oper} {rest : List Oper} {o : Oper} {a : Act} {w : World} {Q : Exit → Act → World → Prop} {K : Nat} {T : List ByteArray} {lk : Bool} (h : KeyB w K T lk) (hgd : o.guard = none) (x : Operand) (ho : o.op = .load 39 x)
    (hx : a.eval x = .pointer (some ⟨K, 0, none⟩)) (hk : wpList Tryz.prog ops Q rest (a.put o.dst (txtV T)) w) : wpList Tryz.prog ops Q (o :: rest) a w :=
  wpList_plain hgd fun _ hK => by
    unfold Oper.wp execOp
    simp only [ho, hx, Instr.loadAt, Instr.sureAddr, Sem.run_bind, Sem.run_pure, Result.andThen_ok, load_texts h]
    exact hK _ _ hk
theorem idx15 (t0 t1 t2 t3 t4 t5 t6 t7 t8 t9 t10 t11 t12 t13 t14 : ByteArray) : ∀ (k : Nat), k < 15 → ∀ (w : World), (Instr.index 39 (txtV [t0, t1, t2, t3, t4, t5, t6, t7, t8, t9, t10, t11, t12, t13, t14]) (.int .i64 k)).run Tryz.prog w = .ok (.string ([t0, t1, t2, t3, t4, t5, t6, t7, t8, t9, t10, t11, t12, t13, t14].getD k ⟨#[]⟩)) w
  | 0, _, _ => by kernel_rfl | 1, _, _ => by kernel_rfl | 2, _, _ => by kernel_rfl | 3, _, _ => by kernel_rfl | 4, _, _ => by kernel_rfl
  | 5, _, _ => by kernel_rfl | 6, _, _ => by kernel_rfl | 7, _, _ => by kernel_rfl | 8, _, _ => by kernel_rfl | 9, _, _ => by kernel_rfl
  | 10, _, _ => by kernel_rfl | 11, _, _ => by kernel_rfl | 12, _, _ => by kernel_rfl | 13, _, _ => by kernel_rfl | 14, _, _ => by kernel_rfl
theorem list15 {α : Type} (T : List α) (hT : T.length = 15) : ∃ t0 t1 t2 t3 t4 t5 t6 t7 t8 t9 t10 t11 t12 t13 t14, T = [t0, t1, t2, t3, t4, t5, t6, t7, t8, t9, t10, t11, t12, t13, t14] := by
  rcases T with _ | ⟨t0, _ | ⟨t1, _ | ⟨t2, _ | ⟨t3, _ | ⟨t4, _ | ⟨t5, _ | ⟨t6, _ | ⟨t7, _ | ⟨t8, _ | ⟨t9, _ | ⟨t10, _ | ⟨t11, _ | ⟨t12, _ | ⟨t13, _ | ⟨t14, _ | ⟨t15, T⟩⟩⟩⟩⟩⟩⟩⟩⟩⟩⟩⟩⟩⟩⟩⟩ <;> simp at hT
  exact ⟨_, _, _, _, _, _, _, _, _, _, _, _, _, _, _, rfl⟩
theorem idx_texts (T : List ByteArray) (hT : T.length = 15) (k : Nat) (hk : k < 15) (w : World) : (Instr.index 39 (txtV T) (.int .i64 k)).run Tryz.prog w = .ok (.string (T[k]'(by rw [hT]; exact hk))) w := by
  have e : T[k]'(by rw [hT]; exact hk) = T.getD k ⟨#[]⟩ := by rw [List.getD_eq_getElem?_getD, List.getElem?_eq_getElem (by rw [hT]; exact hk)]; rfl
  rw [e]
  obtain ⟨t0, t1, t2, t3, t4, t5, t6, t7, t8, t9, t10, t11, t12, t13, t14, rfl⟩ := list15 T hT
  exact idx15 _ _ _ _ _ _ _ _ _ _ _ _ _ _ _ k hk w
/-- How many bytes texts have. -/
def usedT (T : List ByteArray) : Nat := (T.map (·.size)).sum
theorem used_cut (T : List ByteArray) (k : Nat) (h : k < T.length) : usedT (T.take (k + 1)) = usedT (T.take k) + (T[k]).size := by
  unfold usedT
  rw [List.take_succ_eq_append_getElem h, List.map_append, List.sum_append]
  rfl
theorem used_mono (T : List ByteArray) (k : Nat) : usedT (T.take k) ≤ usedT T := by
  unfold usedT
  conv => rhs; rw [← List.take_append_drop k T]
  rw [List.map_append, List.sum_append]
  omega

end Go.Proofs.YtigaaidacndeiaaGreatDoor

namespace Go.Proofs.YtigaaidacndeiaaGreatDoor

open Go Go.RowKit

theorem keyUnder : Tryz.prog.underlying 41 = some (.struct (Tryz.prog.fieldsOf 41)) := by kernel_rfl
theorem info_key (T : List ByteArray) (lk : Bool) (h : T.length = 15) : (Tryz.prog.info? 41).map (·.size) = some (keyC T lk).size := by rw [keyC_size T lk h]; exact info_keys
theorem key_one (T : List ByteArray) (lk : Bool) : (keyC T lk).all (·.oneCell') = true := by
  unfold keyC
  rw [Array.all_eq_true_iff_forall_mem]
  intro x hx
  simp only [List.mem_toArray, List.mem_append, List.mem_map, List.mem_singleton] at hx
  rcases hx with ⟨t, _, rfl⟩ | rfl <;> rfl
theorem setRow_grown (w : World) (g : Nat) (cs : Array Value) : w.grownBy (w.setRow g cs) (some g) :=
  ⟨rfl, rfl, rfl, by simp [World.setRow], fun k _ hne => by
    show (w.heap.modify g _)[k]? = _
    rw [Array.getElem?_modify, if_neg (fun e => hne (by rw [e]))]⟩
theorem KeyB.row {w : World} {K : Nat} {T T2 : List ByteArray} {lk lk2 : Bool} (h : KeyB w K T lk) (h2 : T2.length = 15) : KeyB (w.setRow K (keyC T2 lk2)) K T2 lk2 :=
  ⟨setRow_heap w K _ _ _ _ h.1, h2⟩
theorem KeyB.new (w : World) (T : List ByteArray) (lk : Bool) (h : T.length = 15) : KeyB (w.alloc (.cells (keyC T lk) 41)) w.heap.size T lk := ⟨Blk.new _ _ _, h⟩
theorem KeyB.next {w w' : World} {K : Nat} {T : List ByteArray} {lk : Bool} (h : KeyB w K T lk) (hb : Below w.heap.size w w') : KeyB w' K T lk := ⟨h.1.next hb, h.2⟩
theorem KeyB.grown {w w' : World} {K L : Nat} {T : List ByteArray} {lk : Bool} (h : KeyB w K T lk) (hb : w.grownBy w' (some L)) (hne : K ≠ L) : KeyB w' K T lk := ⟨h.1.grown hb (fun e => hne (by injection e)), h.2⟩
def noT : List ByteArray := List.replicate 15 ⟨#[]⟩
theorem noT_len : noT.length = 15 := rfl

theorem store_texts {w : World} {K : Nat} {T : List ByteArray} {lk : Bool} (h : KeyB w K T lk) (T2 : List ByteArray) (h2 : T2.length = 15) : (storeVar 39 ⟨K, 0, none⟩ (txtV T2)).run Tryz.prog w = .ok () (w.setRow K (keyC T2 lk)) := by
  have hs := run_storeCells_at (P := Tryz.prog) K 0 41 (T2.map Value.string) 0 (keyC T lk) w h.1 (by rw [keyC_size T lk h.2]; simp [h2]) (fun v hv => by
    obtain ⟨t, _, rfl⟩ := List.mem_map.1 hv; rfl)
  have e : ((keyC T lk).toList.take (0 + 0) ++ T2.map Value.string ++ (keyC T lk).toList.drop (0 + 0 + (T2.map Value.string).length)).toArray = keyC T2 lk := by
    unfold keyC
    simp [h2, h.2]
  rw [e] at hs
  obtain ⟨i, hq, hz⟩ := Option.map_eq_some_iff.1 info_texts
  simp [storeVar, sizeOf, typeInfo, hq, txtV, Value.cells, hz, h2, hs]
theorem wpList_store_texts {ops : Array Oper} {rest : List Oper} {o : Oper} {a : Act} {w : World} {Q : Exit → Act → World → Prop} {K : Nat} {T : List ByteArray} {lk : Bool} (h : KeyB w K T lk) (T2 : List ByteArray) (h2 : T2.length = 15) (hgd : o.guard = none) (x y : Operand) (ho : o.op = .store 39 x y)
    (hx : a.eval x = .pointer (some ⟨K, 0, none⟩)) (hy : a.eval y = txtV T2) (hk : wpList Tryz.prog ops Q rest (a.put o.dst undef) (w.setRow K (keyC T2 lk))) : wpList Tryz.prog ops Q (o :: rest) a w :=
  wpList_plain hgd fun _ hK => by
    unfold Oper.wp execOp
    simp only [ho, hx, hy, Instr.storeAt, Instr.sureAddr, Sem.run_bind, Sem.run_pure, Result.andThen_ok, store_texts h T2 h2]
    exact hK _ _ hk
theorem _root_.Go.World.grownBy.old {A B : World} {N : Nat} (h : A.grownBy B (some N)) (hN : A.heap.size ≤ N) (K : Nat) : A.grownBy B (some K) :=
  ⟨h.os, h.tape, h.output, h.size, fun k hk _ => h.block k hk (fun e => by injection e with e; omega)⟩
theorem grown_join {A B C : World} {K : Nat} (h : A.grownBy B (some K)) (k : B.grownBy C (some K)) : A.grownBy C (some K) := grown_far h k (fun r e => .inr (by cases e; rfl))
/-- What Define leaves: the error, the texts, the lock. -/
def defU (T : List ByteArray) (lk cl lo : Bool) (l : List Nat) : Int × List ByteArray × Bool := match takeU (if cl then noT else T) (pcs l) with
  | none => (3, T, lk)
  | some T' => if 804 < usedT T' then (5, T, lk) else if lk then (6, T, lk) else (0, T', lo)
theorem cutQ_len (l : List Nat) : (cutQ l).2.1.length ≤ l.length := by
  induction l with
  | nil => simp [cutQ]
  | cons c l ih =>
    unfold cutQ
    split
    · simp
    · simp only [List.length_cons]; omega
theorem fhU_len : ∀ (l b : List Nat), fhL l = some b → l.length = 2 * b.length
  | [], b, h => by simp [fhL] at h; subst h; rfl
  | [_], b, h => by simp [fhL] at h
  | x :: y :: l, b, h => by
    unfold fhL at h
    split at h
    · cases hl : fhL l with
      | none => rw [hl] at h; cases h
      | some m =>
        rw [hl] at h
        injection h with h
        subst h
        have := fhU_len l m hl
        simp only [List.length_cons, this]
        omega
    · cases h
theorem defS_len (x : List Nat) (k : Nat) (b : List Nat) (h : defS x = some (k, b)) : b.length ≤ x.length := by
  unfold defS defP at h
  split at h
  · split at h
    · cases hf : fhL (cutQ x).2.1 with
      | none => rw [hf] at h; cases h
      | some z =>
        rw [hf] at h; injection h with h; injection h with h1 h2
        have := fhU_len _ _ hf
        have := cutQ_len x
        subst h2
        omega
    · cases h
  · cases h
theorem pcs_len (l : List Nat) : ∀ x ∈ pcs l, x.length ≤ l.length := by
  induction l with
  | nil => intro x hx; simp [pcs] at hx; subst hx; simp
  | cons c l ih =>
    intro x hx
    unfold pcs at hx
    split at hx
    · rcases List.mem_cons.1 hx with rfl | hx
      · simp
      · have := ih x hx; simp only [List.length_cons]; omega
    · cases hp : pcs l with
      | nil => rw [hp] at hx; simp at hx; subst hx; simp
      | cons p ps =>
        rw [hp] at hx ih
        rcases List.mem_cons.1 hx with rfl | hx
        · have := ih p (by simp); simp only [List.length_cons]; omega
        · have := ih x (by simp [hx]); simp only [List.length_cons]; omega
/-- Texts that are no longer than may come in. -/
def ShortT (T : List ByteArray) : Prop := T.length = 15 ∧ ∀ t ∈ T, t.size ≤ 100000
theorem noT_short : ShortT noT := ⟨rfl, fun t h => by
  obtain ⟨_, rfl⟩ := List.mem_replicate.1 h
  decide⟩
theorem stepU_short (T : List ByteArray) (x : List Nat) (T' : List ByteArray) (hT : ShortT T) (hx : x.length ≤ 100000) (h : stepU T x = some T') : ShortT T' := by
  unfold stepU at h
  split at h
  · injection h with h; subst h; exact hT
  · cases hd : defS x with
    | none => rw [hd] at h; cases h
    | some p =>
      rw [hd] at h; injection h with h; subst h
      have := defS_len x p.1 p.2 hd
      refine ⟨by rw [List.length_set]; exact hT.1, fun t ht => ?_⟩
      rcases List.mem_or_eq_of_mem_set ht with h | rfl
      · exact hT.2 t h
      · rw [bstr_size]; omega
theorem takeU_cons (T : List ByteArray) (x : List Nat) (l : List (List Nat)) : takeU T (x :: l) = (stepU T x).bind fun T => takeU T l := by
  unfold takeU
  rw [List.foldl_cons]
  show l.foldl _ (stepU T x) = _
  cases stepU T x with
  | some T1 => rfl
  | none =>
    show l.foldl _ none = none
    induction l with
    | nil => rfl
    | cons y l ih => exact ih
theorem takeU_short : ∀ (l : List (List Nat)) (T T' : List ByteArray), ShortT T → (∀ x ∈ l, x.length ≤ 100000) → takeU T l = some T' → ShortT T'
  | [], T, T', hT, _, h => by injection h with h; subst h; exact hT
  | x :: l, T, T', hT, hl, h => by
    rw [takeU_cons] at h
    cases hs : stepU T x with
    | none => rw [hs] at h; cases h
    | some T1 =>
      rw [hs] at h
      exact takeU_short l T1 T' (stepU_short T x T1 hT (hl x (by simp)) hs) (fun y hy => hl y (by simp [hy])) h
theorem usedT_le : ∀ (T : List ByteArray), (∀ t ∈ T, t.size ≤ 100000) → usedT T ≤ T.length * 100000
  | [], _ => by simp [usedT]
  | t :: T, h => by
    have h1 := usedT_le T (fun x hx => h x (by simp [hx]))
    have h2 := h t (by simp)
    have h3 : usedT (t :: T) = t.size + usedT T := rfl
    rw [h3, List.length_cons]
    omega
theorem ShortT.used {T : List ByteArray} (h : ShortT T) : usedT T ≤ 10000000000 := by
  have := usedT_le T h.2
  rw [h.1] at this
  omega
theorem nb_len (s : ByteArray) : (nb s).length = s.size := by unfold nb; rw [natB_len]
theorem defU_short (T : List ByteArray) (lk cl lo : Bool) (l : List Nat) (hT : ShortT T) (hl : l.length ≤ 100000) : ShortT (defU T lk cl lo l).2.1 := by
  unfold defU
  split
  · exact hT
  · rename_i T' h
    have hs := takeU_short _ _ _ (by cases cl; exact hT; exact noT_short) (fun x hx => Nat.le_trans (pcs_len l x hx) hl) h
    split
    · exact hT
    · split
      · exact hT
      · exact hs


end Go.Proofs.YtigaaidacndeiaaGreatDoor

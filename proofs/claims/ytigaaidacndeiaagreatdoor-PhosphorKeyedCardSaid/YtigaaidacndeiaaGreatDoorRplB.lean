/-
  Sequences that are answered and read again.
-/
import Derived.Test.YtigaaidacndeiaaGreatDoorRplA
import Derived.Test.YtigaaidacndeiaaGreatDoorTokY
namespace Go.Proofs.YtigaaidacndeiaaGreatDoor
open Go Go.RowKit
set_option maxRecDepth 100000

/-! Letters. -/
def IlP (n : Nat) (u : Value) : Prop := ∃ A c, u = .slice A n c
def IlF (B : Nat) (ns : List Int) (u : Value) (W : World) : Prop := OInts W B u ns
theorem ilV_stab (ks : Kinds) (wr : World) (ns : List Int) (h : 3 ∉ boxes ks) : ∀ v w w', Kept ks wr w w' → IlF wr.heap.size ns v w → IlF wr.heap.size ns v w' := fun _ _ _ hk ho => own_stab2 h hk ho
def BtP (n : Nat) (u : Value) : Prop := ∃ A c, u = .slice A n c
def BtF (B : Nat) (l : List Nat) (u : Value) (W : World) : Prop := OByt W B u l
theorem btV_stab (ks : Kinds) (wr : World) (l : List Nat) (h : 5 ∉ boxes ks) : ∀ v w w', Kept ks wr w w' → BtF wr.heap.size l v w → BtF wr.heap.size l v w' := fun _ _ _ hk ho => own_stab2 h hk ho
/-! What is answered, plainly. -/
theorem chk_dat (c m : Nat) (ps : List Int) (s : ByteArray) : checkP 5 c m ps s [97, 98] = checkP 4 c m ps s [] := by
  have hs : smallB ps s [97, 98] = smallB ps s [] := by unfold smallB; rfl
  have hw : writtenB m s [97, 98] = writtenB m s [] := by
    unfold writtenB
    rw [show ([97, 98] : List Nat).any noDataB = false by decide, show ([] : List Nat).any noDataB = false by decide]
  have hc : codedB 5 c s = codedB 4 c s := rfl
  have hp : pureB 5 c m ps s [97, 98] = true := rfl
  have hq : pureB 4 c m ps s [] = true := by show sameQ 4 0 0 [] (ByteArray.mk #[]) [] 4 0 0 [] (ByteArray.mk #[]) [] = true; decide +kernel
  unfold checkP
  rw [hs, hw, hc, hp, hq, if_neg (show ¬ ((5 : Int) < 1 ∨ 9 < (5 : Int)) by decide), if_neg (show ¬ ((4 : Int) < 1 ∨ 9 < (4 : Int)) by decide)]
theorem id_five (c m : Nat) (s : ByteArray) : idP 5 c m s = idP 4 c m s := rfl
theorem id_back (id : ByteArray) (h : 0 < id.size) : idP 4 (byteAt id (id.size - 1)) (tkM id) (tkS id) = id := by
  apply ByteArray.ext
  apply Array.ext'
  rw [id_four]
  have hl : id.data.toList.length = id.size := dlen id
  have hS : (tkS id).data.toList = (id.data.toList.take (id.size - 1)).drop (if markedB id then 1 else 0) := by
    unfold tkS
    rw [ByteArray.data_extract, Array.toList_extract, List.extract_eq_take_drop, List.drop_take]
  have hlast : ∀ k, k < id.size → byteAt id k = (id.data.toList.getD k 0).toNat := fun k _ => rfl
  have hN : ∀ l : List UInt8, (natL l).map UInt8.ofNat = l := fun l => u8l_natL l
  rw [List.map_append, List.map_append, hN, hS]
  have hlst : ([byteAt id (id.size - 1)] : List Nat).map UInt8.ofNat = [id.data.toList[id.size - 1]'(by omega)] := by
    unfold byteAt
    rw [List.map_singleton, List.getD_eq_getElem?_getD, List.getElem?_eq_getElem (by omega)]
    simp
  rw [hlst]
  have htl : id.data.toList = id.data.toList.take (id.size - 1) ++ [id.data.toList[id.size - 1]'(by omega)] := by
    have := List.take_succ_eq_append_getElem (l := id.data.toList) (i := id.size - 1) (by omega)
    rw [← this, List.take_of_length_le (by omega)]
  cases hm : markedB id with
  | false =>
    have h0 : tkM id = 0 := by unfold tkM; rw [hm]; rfl
    rw [h0]
    simp only [if_true, List.map_nil, List.nil_append, Bool.false_eq_true, if_false, List.drop_zero]
    exact htl.symm
  | true =>
    have h1 : tkM id = byteAt id 0 := by unfold tkM; rw [hm]; rfl
    have hb := hm
    unfold markedB markN at hb
    simp only [Bool.and_eq_true, decide_eq_true_eq] at hb
    have h2 : tkM id ≠ 0 := by rw [h1]; omega
    rw [if_neg h2, h1]
    simp only [if_true]
    have hz : ([byteAt id 0] : List Nat).map UInt8.ofNat = (id.data.toList.take (id.size - 1)).take 1 := by
      unfold byteAt
      rw [List.map_singleton, List.take_take, show min 1 (id.size - 1) = 1 by omega, List.getD_eq_getElem?_getD, List.getElem?_eq_getElem (by omega)]
      rw [List.take_one]
      rw [List.head?_eq_getElem?, List.getElem?_eq_getElem (by omega)]
      simp
    rw [hz, List.take_append_drop]
    exact htl.symm
theorem tkS_size (id : ByteArray) : (tkS id).size ≤ id.size := by
  unfold tkS
  rw [ByteArray.size_extract]
  omega
structure RepB (id : ByteArray) (ns : List Int) (e : Bool) : Prop where
  no : 0 < (repL 4 id ⟨#[]⟩ ns e).length ∨ (repL 4 id ⟨#[]⟩ ns e = [] ∧ repL 5 id ⟨#[97, 98]⟩ ns e = [])
  yes : 0 < (repL 4 id ⟨#[]⟩ ns e).length → ∃ c m s, feedL ps0 (repL 4 id ⟨#[]⟩ ns e ++ repL 5 id ⟨#[97, 98]⟩ ns e) = (ps0, [⟨4, c, m, numsT ns, s, []⟩, ⟨5, c, m, numsT ns, s, [97, 98]⟩]) ∧ idP 4 c m s = id ∧ idP 5 c m s = id ∧ s.size ≤ id.size
theorem rep_both (id : ByteArray) (ns : List Int) (e : Bool) : RepB id ns e := by
  have e97 : natL (ByteArray.mk #[97, 98]).data.toList = [97, 98] := by decide
  have e0 : natL (ByteArray.mk #[]).data.toList = [] := rfl
  by_cases hz : id.size = 0
  · have h4 : ∀ k d, repL k id d ns e = [] := fun k d => by unfold repL; rw [if_pos hz]
    exact ⟨.inr ⟨h4 _ _, h4 _ _⟩, fun h => by rw [h4] at h; simp at h⟩
  · by_cases hc : checkP 4 (byteAt id (id.size - 1)) (tkM id) (numsT ns) (tkS id) [] = 0
    · have hc5 : checkP 5 (byteAt id (id.size - 1)) (tkM id) (numsT ns) (tkS id) [97, 98] = 0 := by rw [chk_dat]; exact hc
      have h4 : repL 4 id ⟨#[]⟩ ns e = bytesL 4 (byteAt id (id.size - 1)) (tkM id) (numsT ns) (tkS id) [] e := by unfold repL; rw [if_neg hz, e0, if_pos hc]
      have h5 : repL 5 id ⟨#[97, 98]⟩ ns e = bytesL 5 (byteAt id (id.size - 1)) (tkM id) (numsT ns) (tkS id) [97, 98] e := by unfold repL; rw [if_neg hz, e97, if_pos hc5]
      have f4 := feed_tok hc (by simp) e
      have f5 := feed_tok hc5 (by simp) e
      refine ⟨.inl ?_, fun _ => ⟨byteAt id (id.size - 1), tkM id, tkS id, ?_, id_back id (by omega), by rw [id_five]; exact id_back id (by omega), tkS_size id⟩⟩
      · rw [h4]
        rcases Nat.eq_zero_or_pos (bytesL 4 (byteAt id (id.size - 1)) (tkM id) (numsT ns) (tkS id) [] e).length with h0 | h0
        · rw [List.eq_nil_of_length_eq_zero h0] at f4
          cases f4
        · exact h0
      · rw [h4, h5, feedL_append, f4]
        dsimp only
        rw [f5]
        rfl
    · have hc5 : ¬ checkP 5 (byteAt id (id.size - 1)) (tkM id) (numsT ns) (tkS id) [97, 98] = 0 := by rw [chk_dat]; exact hc
      have h4 : repL 4 id ⟨#[]⟩ ns e = [] := by unfold repL; rw [if_neg hz, e0, if_neg hc]
      have h5 : repL 5 id ⟨#[97, 98]⟩ ns e = [] := by unfold repL; rw [if_neg hz, e97, if_neg hc5]
      exact ⟨.inr ⟨h4, h5⟩, fun h => by rw [h4] at h; simp at h⟩
/-! few. -/
theorem own_empI (w : World) : (w.alloc (.cells #[] 3)).ownsRow w.heap.size 3 1 (.slice (some ⟨w.heap.size, 0, none⟩) 0 0) 0 [] :=
  ⟨rfl, .inr ⟨w.heap.size, 0, #[], rfl, Nat.le_refl _, Blk.new w _ _, Nat.le_refl _, by decide, rfl, rfl⟩⟩
set_option maxHeartbeats 4000000 in
theorem fewR_any (A : Option Addr) (cap : Nat) (ns : List Int) (hm : ns.length ≤ 17592186043904) (hcap : ns.length ≤ cap) (w : World) (h : RInts w A ns) :
    Calls Tryz.prog 7 #[.slice A ns.length cap] w fun e w' => (∃ A' c', e = .returned (.slice A' (ns.take 40).length c') ∧ OInts w' w.heap.size (.slice A' (ns.take 40).length c') (ns.take 40) ∧ (ns.take 40).length ≤ c') ∧ Below w.heap.size w w' := by
  have HR := Lib.hid (rints_take h 40)
  have HL : Hid ((ns.take 40).length ≤ 40) := Lib.hid (by simp; omega)
  obtain ⟨i1, hj0, hj1, hj2, hj3⟩ := info_parts info_int
  have HJ := Lib.hid (And.intro hj0 (And.intro hj1 (And.intro hj2 hj3)))
  have hal : Below w.heap.size w (w.alloc (.cells #[] 3)) := (Below.refl _ _).alloc (Nat.le_refl _) _
  have HO := Lib.hid (own_empI w)
  have HRd := Lib.hid (show Reads (w.alloc (.cells #[] 3)) (w.alloc (.cells #[] 3)).heap.size 1 A (ns.take 40).length ((ns.take 40).map (Value.int .i64)) from HR.out.next hal)
  have HB := Lib.hid hal
  have H1 : Hid (∀ u ∈ (ns.take 40).map (Value.int .i64), u.oneCell' = true) := Lib.hid (fun u hu => by obtain ⟨z, _, rfl⟩ := List.mem_map.1 hu; rfl)
  clear hj0 hj1 hj2 hj3 hal h HR
  generalize hL : ns.take 40 = L at *
  go_enter Tryz.func7, Tryz.ntmps7
  by_cases hx : 40 < ns.length
  case' pos =>
    have e1 : ((40 : Int) < (ns.length : Int)) = True := eq_true (by omega)
    have e2 : ((40 : Int) ≤ (cap : Int)) = True := eq_true (by omega)
    go_upto_region 3 with fail
    have hla : L.length = 40 := by rw [← hL, List.length_take]; omega
    rw [← hla]
    clear e1 e2 hla hL
  case' neg =>
    have e1 : ((40 : Int) < (ns.length : Int)) = False := eq_false (by omega)
    go_upto_region 3 with fail
    have hla : L = ns := by rw [← hL]; exact List.take_of_length_le (by omega)
    subst hla
    clear e1 hL
  all_goals
    have HMx : Hid (0 + L.length ≤ maxLen) := Lib.hid (by have := HL.out; unfold maxLen; omega)
    have HBy : Hid ((0 + L.length) * 8 ≤ 140737488355328) := Lib.hid (by have := HL.out; omega)
    have HBz : Hid (w.heap.size ≤ (w.alloc (.cells #[] 3)).heap.size) := Lib.hid HB.out.size
    go_wp2_with (at_builtin; refine wpList_append_any _ rfl _ _ 22 rfl w.heap.size 3 i1 _ 1 8 Tryz.underlying22 HJ.out.1 HJ.out.2.1 HJ.out.2.2.1 HJ.out.2.2.2 rfl (by decide) _ 0 _ rfl HO.out _ A L.length _ _ rfl HRd.out H1.out HMx.out HBy.out HBz.out ?_; intro v4 w4 hown4 hg4 _; rw [Nat.zero_add, List.nil_append] at hown4; obtain ⟨A4, c4, rfl⟩ := own_formS hown4; have HO4 := Lib.hid hown4; have HB4 := Lib.hid (below_row HB.out hg4 (own_ge HO.out) HBz.out); clear hown4 hg4)
    go_ret
    exact ⟨⟨A4, c4, rfl, HO4.out, own_capV HO4.out⟩, HB4.out⟩
end Go.Proofs.YtigaaidacndeiaaGreatDoor

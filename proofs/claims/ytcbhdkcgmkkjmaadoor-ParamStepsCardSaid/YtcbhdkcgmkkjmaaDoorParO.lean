/-
  Numbers collected beside the bytes that were taken: what is known in the midst; the reference's parse of such bytes.
-/
import Derived.Test.YtcbhdkcgmkkjmaaDoorTokI
import Derived.Test.YtcbhdkcgmkkjmaaDoorParN
import Derived.Test.YtcbhdkcgmkkjmaaDoorParV
import Derived.Test.YtcbhdkcgmkkjmaaDoorAwakeP
import Derived.Test.YtcbhdkcgmkkjmaaDoorMixE
namespace Go.Proofs.YtcbhdkcgmkkjmaaDoor
open Go Go.RowKit

theorem natL_back (p : List UInt8) : (bstr (natL p)).data.toList = p := by
  rw [bstr_list]
  unfold natL
  rw [List.map_map]
  exact (List.map_congr_left (fun b _ => by simp)).trans (List.map_id p)
theorem natL_snoc (p : List UInt8) (b : UInt8) : natL (p ++ [b]) = natL p ++ [b.toNat] := by simp [natL]
theorem oby_byA {w w' : World} {base : Nat} {v : Value} {l : List Nat} {row : Option Nat} (h : OByt w base v l) (hg : w.grownBy w' row) (hr : ∀ k, row = some k → k < base) : OByt w' base v l :=
  World.ownsRow.kept (row := row) h hg (by
    rcases hk : v.ownBlock with _ | k
    · exact .inl rfl
    · right; intro e; have h1 := (World.ownsRow.lt (obyt_own h) k hk).1; have h2 := hr k e.symm; omega)
/-- What is known in the midst: what was collected, and the bytes that were taken. -/
structure PS (w : World) (ga : Nat) (tk : Value) (fs : List Int) (p : List UInt8) (W : World) : Prop where
  below : Below w.heap.size w W
  far : w.heap.size ≤ ga
  acc : Acc W ga fs
  own : OByt W (ga + 1) tk (natL p)
section
variable {w W W' : World} {ga : Nat} {tk : Value} {fs fs' : List Int} {p : List UInt8}
theorem PS.lt (h : PS w ga tk fs p W) : ga + 1 ≤ W.heap.size := Blk.lt h.acc
theorem PS.next (h : PS w ga tk fs p W) (hb : Below W.heap.size W W') : PS w ga tk fs p W' := ⟨h.below.trans (hb.mono h.below.size), h.far, Blk.next h.acc hb, h.own.next hb⟩
theorem PS.byte (h : PS w ga tk fs p W) (ha : Acc W' ga fs') (hg : W.grownBy W' (some ga)) : PS w ga tk fs' p W' :=
  ⟨h.below.grown hg h.below.size (fun k hk => by cases hk; exact h.far), h.far, ha, oby_byA h.own hg (fun k hk => by cases hk; omega)⟩
theorem PS.clear (h : PS w ga tk fs p W) (ha : Acc W' ga []) (hg : W.grownBy W' (some ga)) : PS w ga (.slice none 0 0) [] [] W' :=
  ⟨(h.byte ha hg).below, h.far, ha, obyt_nil _ _⟩
theorem PS.push {v : Value} (h : PS w ga tk fs p W) (b : UInt8) (ho : W'.ownsRow (ga + 1) 5 1 v ((natL p).length + 1) ((natL p).map (fun (n : Nat) => Value.int .u8 (n : Int)) ++ [.int .u8 (b.toNat : Int)])) (hb : Below (ga + 1) W W') : PS w ga v fs (p ++ [b]) W' :=
  ⟨h.below.trans (hb.mono (by have := h.far; omega)), h.far, Blk.below h.acc hb (by omega), by rw [natL_snoc]; exact obyt_push _ ho⟩
end
theorem refParseB_any (p : List UInt8) (hok : OkB p) (hl : p.length ≤ 1000) (W : World) :
    Calls Tryd.prog 7 #[.string (bstr (natL p))] W fun e w' => ∃ A c, e = .returned (.tuple #[.slice A (numsOf p).length c, .int .i64 0]) ∧ RInts w' A (numsOf p) ∧ Below W.heap.size W w' := by
  have hd := natL_back p
  have := refParse_ok (bstr (natL p)) (by rw [← dlen, hd]; omega) (by rw [hd]; exact hok) W
  rw [hd] at this
  refine this.mono fun e w' ⟨v, he, ho, hb⟩ => ?_
  obtain ⟨A, c, rfl⟩ := ho.form
  exact ⟨A, c, he, ho.reads, hb⟩
theorem OInts.setO {W : World} {b g n c : Nat} {L : List Int} (h : OInts W b (.slice (some ⟨g, 0, none⟩) n c) L) (hn : n = L.length) (k : Nat) (x : Int) :
    OInts (W.setCell ⟨g, k, none⟩ (.int .i64 x)) b (.slice (some ⟨g, 0, none⟩) n c) (L.set k x) := by
  subst hn
  have h1 := (World.ownsRow.stored h k (.int .i64 x)).1
  unfold OInts
  rw [List.length_set, List.map_set]
  exact h1
theorem okb_nat (b : UInt8) : okb b = (decide (b.toNat = 59) || (decide (48 ≤ b.toNat) && decide (b.toNat ≤ 57))) := by
  have h : ∀ n : Fin 256, okb (UInt8.ofNat n.val) = (decide (n.val = 59) || (decide (48 ≤ n.val) && decide (n.val ≤ 57))) := by decide +kernel
  have := h ⟨b.toNat, by have := b.toNat_lt; omega⟩
  simpa using this
theorem nb59 (n : Nat) (b : Bool) (h : decide (n = 59) = b) : ((n : Int) == 59) = b := by
  rw [← h, Bool.eq_iff_iff]; simp; omega
theorem nb48 (n : Nat) (b : Bool) (h : decide (48 ≤ n) = b) : decide ((n : Int) ≥ 48) = b := by
  rw [← h, Bool.eq_iff_iff]; simp; omega
theorem nb57 (n : Nat) (b : Bool) (h : decide (n ≤ 57) = b) : decide ((n : Int) ≤ 57) = b := by
  rw [← h, Bool.eq_iff_iff]; simp; omega
theorem OByt.reads' {w : World} {base : Nat} {v : Value} {A : Option Addr} {c : Nat} {ns : List Nat} (h : OByt w base v ns) (e : v = .slice A ns.length c) : RByt w A ns := by
  subst e; exact h.reads
theorem OInts.nextO {w w' : World} {base : Nat} {v : Value} {l : List Int} (h : OInts w base v l) (hb : Below w.heap.size w w') : OInts w' base v l :=
  World.ownsRow.kept (row := none) h ⟨hb.os, hb.tape, hb.output, hb.size, fun k hk _ => hb.block k hk⟩ (by cases v.ownBlock <;> simp)
theorem oints_own' {w : World} {base n : Nat} {v : Value} {ns : List Int} (h : OInts w base v ns) (hn : ns.length = n) : w.ownsRow base 3 1 v n (ns.map (Value.int .i64)) := by
  subst hn; exact h
/-- A list of the call's own, as a letter. -/
def LiP (n : Nat) (u : Value) : Prop := ∃ A c, u = .slice A n c
def LiF (B : Nat) (ns : List Int) (u : Value) (W : World) : Prop := OInts W B u ns
theorem li_stab (ks : Kinds) (wr : World) (ns : List Int) (h : boxes ks = []) : ∀ v w w', Kept ks wr w w' → LiF wr.heap.size ns v w → LiF wr.heap.size ns v w' := by
  rintro v w w' hk ⟨hl, hr⟩
  rcases hr with ⟨rfl, hn⟩ | ⟨g, cap, cur, rfl, hb, hg, r⟩
  · exact ⟨hl, .inl ⟨rfl, hn⟩⟩
  · have hlt : g < w.heap.size := Blk.lt (show Blk w g _ cur from hg)
    exact ⟨hl, .inr ⟨g, cap, cur, rfl, hb, (hk.block g hlt hb (fun _ _ _ _ => by rw [h]; simp)).trans hg, r⟩⟩
theorem bstr_seven (p : List UInt8) : bstr (natL p) ++ ⟨#[55]⟩ = bstr (natL (p ++ [55])) := by
  apply ByteArray.ext
  apply Array.toList_inj.1
  have h1 := natL_back p
  have h2 := natL_back (p ++ [55])
  rw [h2]
  simp [h1]
theorem same_not {p : List UInt8} (h : (numsOf p == numsOf (p ++ [55])) = false) : sameF (fieldsOf p) (stepF (fieldsOf p) 55) = false := by
  rcases hq : sameF (fieldsOf p) (stepF (fieldsOf p) 55) with _ | _
  · rfl
  · have := sameF_take hq
    rw [← fieldsOf_snoc] at this
    have h2 : numsOf p = numsOf (p ++ [55]) := this
    rw [h2] at h
    simp at h
theorem natL_at (p : List UInt8) (j : Nat) (h : j < p.length) (h2 : j < (natL p).length) : (natL p)[j] = p[j].toNat := by simp [natL]
theorem ints_len30 (p : List UInt8) : (numsOf p).length ≤ 30 := by unfold numsOf; rw [List.length_take]; omega
end Go.Proofs.YtcbhdkcgmkkjmaaDoor

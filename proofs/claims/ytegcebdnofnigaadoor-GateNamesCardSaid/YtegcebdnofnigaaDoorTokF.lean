/-
  Tokens: are there such bytes alone as may be, is all zero that the kind doesn't use, can it be?
-/
import Derived.Test.YtegcebdnofnigaaDoorTokE
namespace Go.Proofs.YtegcebdnofnigaaDoor

open Go Go.RowKit

def interB (b : UInt8) : Bool := amongB b.toNat 32 47
def writtenB (m : Nat) (s : ByteArray) (dt : List Nat) : Bool := ((m == 0) || amongB m 60 63) && (s.data.toList.all interB && !(dt.any noDataB))
theorem dlen (s : ByteArray) : s.data.toList.length = s.size := by show s.data.toList.length = s.data.size; simp
theorem dat (s : ByteArray) (k : Nat) (hk : k < s.size) : s.data.toList[k]'(by rw [dlen]; exact hk) = s[k] := by simp; rfl
theorem all_step {s : ByteArray} {k : Nat} (hk : k < s.size) (h : (s.data.toList.take k).all interB = true) : (interB s[k] = true → (s.data.toList.take (k + 1)).all interB = true) ∧ (interB s[k] = false → s.data.toList.all interB = false) := by
  have hl : k < s.data.toList.length := by rw [dlen]; exact hk
  constructor
  · intro hi
    rw [take_snoc _ k hl, List.all_append, h, dat s k hk]
    simp [hi]
  · intro hi
    rcases he : s.data.toList.all interB with _ | _
    · rfl
    · have := List.all_eq_true.1 he _ (List.getElem_mem hl)
      rw [dat s k hk, hi] at this
      cases this
theorem all_end {s : ByteArray} (h : (s.data.toList.take s.size).all interB = true) : s.data.toList.all interB = true := by
  rw [List.take_of_length_le (by rw [dlen]; exact Nat.le_refl _)] at h
  exact h

def pureB (k : Int) (c m : Nat) (ps : List Int) (s : ByteArray) (dt : List Nat) : Bool :=
  if k = 1 ∨ k = 2 then sameQ k 0 m ps s dt k 0 0 [] (ByteArray.mk #[]) []
  else if k = 3 then sameQ k 0 m ps (ByteArray.mk #[]) dt k 0 0 [] (ByteArray.mk #[]) []
  else if k = 4 then sameQ k 0 0 [] (ByteArray.mk #[]) dt k 0 0 [] (ByteArray.mk #[]) []
  else if k = 5 then true
  else sameQ k c m ps s [] k 0 0 [] (ByteArray.mk #[]) []
theorem pure5 : sameQ 5 0 0 [] (ByteArray.mk #[]) [] 5 0 0 [] (ByteArray.mk #[]) [] = true := by decide +kernel
theorem rints_nil (W : World) : RInts W none [] := Reads.none_
theorem rbyt_nil (W : World) : RByt W none [] := Reads.none_
def put6 (w : World) (g : Nat) (v0 v1 v2 v3 v4 v5 : Value) : World := (((((w.setCell ⟨g, 0, none⟩ v0).setCell ⟨g, 1, none⟩ v1).setCell ⟨g, 2, none⟩ v2).setCell ⟨g, 3, none⟩ v3).setCell ⟨g, 4, none⟩ v4).setCell ⟨g, 5, none⟩ v5
theorem KW.set {w W : World} {T : TypeId} {x y : Array Value} (h : KW w T x y W) (i : Nat) (v : Value) : KW w T x (y.setIfInBounds i v) (W.setCell ⟨w.heap.size + 1, i, none⟩ v) :=
  ⟨h.1.far (p := ⟨w.heap.size + 1, i, none⟩) (by simp) v, h.2.1.set_ i v, h.2.2.setCell (p := ⟨w.heap.size + 1, i, none⟩) (by simp) v⟩
theorem KW.put {w W : World} {T : TypeId} {x : Array Value} {u0 u1 u2 u3 u4 u5 : Value} (h : KW w T x #[u0, u1, u2, u3, u4, u5] W) (v0 v1 v2 v3 v4 v5 : Value) : KW w T x #[v0, v1, v2, v3, v4, v5] (put6 W (w.heap.size + 1) v0 v1 v2 v3 v4 v5) := by
  have := (((((h.set 0 v0).set 1 v1).set 2 v2).set 3 v3).set 4 v4).set 5 v5
  simp only [List.setIfInBounds_toArray, List.set_cons_zero, List.set_cons_succ] at this
  exact this

end Go.Proofs.YtegcebdnofnigaaDoor

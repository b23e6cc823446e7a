/-
  Lists of deeds of a cursor.
-/
import Derived.Test.YtilfhilebdkmkaaCurL
namespace Go.Proofs.Ytilfhilebdkmkaa
open Go.RowKit

structure Ac3 where
  k : Int
  n : Int
  m : Int
def Ac3.cells (a : Ac3) : List Value := [.int .i64 a.k, .int .i64 a.n, .int .i64 a.m]
def Ac3.ok (a : Ac3) : Prop := -9223372036854775808 ≤ a.n ∧ a.n ≤ 9223372036854775807
/-- A slice of deeds. -/
def RAc (w : World) (A : Option Addr) (l : List Ac3) : Prop := Reads w w.heap.size 3 A l.length (l.flatMap Ac3.cells)
theorem RAc.next {w w' : World} {A : Option Addr} {l : List Ac3} (h : RAc w A l) (hb : Below w.heap.size w w') : RAc w' A l := (Reads.below h hb).more hb.size
theorem ac_at (l : List Ac3) (k : Nat) (hk : k < l.length) :
    (l.flatMap Ac3.cells)[k * 3]? = some (.int .i64 l[k].k) ∧ (l.flatMap Ac3.cells)[k * 3 + 1]? = some (.int .i64 l[k].n) ∧ (l.flatMap Ac3.cells)[k * 3 + 2]? = some (.int .i64 l[k].m) := by
  induction l generalizing k with
  | nil => simp at hk
  | cons c l ih =>
    cases k with
    | zero => simp [Ac3.cells]
    | succ k =>
      have h := ih k (by simpa using hk)
      have e : ∀ j, (Ac3.cells c ++ l.flatMap Ac3.cells)[(k + 1) * 3 + j]? = (l.flatMap Ac3.cells)[k * 3 + j]? := fun j => by
        rw [List.getElem?_append_right (by simp [Ac3.cells]; omega)]
        congr 1
        simp [Ac3.cells]; omega
      rw [List.flatMap_cons]
      exact ⟨(e 0).trans h.1, (e 1).trans h.2.1, (e 2).trans h.2.2⟩
theorem ac_len (l : List Ac3) : (l.flatMap Ac3.cells).length = l.length * 3 := by
  induction l with
  | nil => rfl
  | cons c l ih => rw [List.flatMap_cons, List.length_append, ih, List.length_cons]; simp [Ac3.cells]; omega
theorem RAc.at_ {w : World} {A : Option Addr} {l : List Ac3} (h : RAc w A l) {k : Nat} (hk : k < l.length) :
    ∃ ad, A = some ad ∧ ad.block < w.heap.size ∧ w.cell? (ad.add (k * 3)) = some (.int .i64 l[k].k) ∧ w.cell? ⟨(ad.add (k * 3)).block, (ad.add (k * 3)).off + 1, none⟩ = some (.int .i64 l[k].n) ∧ w.cell? ⟨(ad.add (k * 3)).block, (ad.add (k * 3)).off + 2, none⟩ = some (.int .i64 l[k].m) := by
  obtain ⟨ad, e, hb, hc⟩ := h.2 (by omega)
  obtain ⟨h1, h2, h3⟩ := ac_at l k hk
  have a1 : (⟨(ad.add (k * 3)).block, (ad.add (k * 3)).off + 1, none⟩ : Addr) = ad.add (k * 3 + 1) := (show _ = (ad.add (k * 3)).add 1 from rfl).trans (add_of_add ad _ _)
  have a2 : (⟨(ad.add (k * 3)).block, (ad.add (k * 3)).off + 2, none⟩ : Addr) = ad.add (k * 3 + 2) := (show _ = (ad.add (k * 3)).add 2 from rfl).trans (add_of_add ad _ _)
  refine ⟨ad, e, hb, hc _ _ h1, ?_, ?_⟩
  · rw [a1]; exact hc _ _ h2
  · rw [a2]; exact hc _ _ h3
end Go.Proofs.Ytilfhilebdkmkaa

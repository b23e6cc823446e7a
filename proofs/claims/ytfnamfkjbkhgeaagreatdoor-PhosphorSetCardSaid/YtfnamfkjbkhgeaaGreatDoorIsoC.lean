/-
  States of sets: the glyph of a code, by what is at hand.
-/
import Derived.Test.YtfnamfkjbkhgeaaGreatDoorIsoB
import Derived.Test.YtfnamfkjbkhgeaaGreatDoorMixE
namespace Go.Proofs.YtfnamfkjbkhgeaaGreatDoor

open Go Go.RowKit

theorem repl7 {w : World} {g : Nat} {T : TypeId} {u0 u1 u2 u3 u4 u5 u6 : Value} (h : Blk w g T #[u0, u1, u2, u3, u4, u5, u6]) (v0 v1 v2 v3 v4 v5 v6 : Value) : Repl w (put7 w g v0 v1 v2 v3 v4 v5 v6) g T #[v0, v1, v2, v3, v4, v5, v6] := by
  have h0 := h.set_ 0 v0
  have h1 := h0.set_ 1 v1
  have h2 := h1.set_ 2 v2
  have h3 := h2.set_ 3 v3
  have h4 := h3.set_ 4 v4
  have h5 := h4.set_ 5 v5
  have := (Repl.set h 0 v0).trans ((Repl.set h0 1 v1).trans ((Repl.set h1 2 v2).trans ((Repl.set h2 3 v3).trans ((Repl.set h3 4 v4).trans ((Repl.set h4 5 v5).trans (Repl.set h5 6 v6))))))
  simp only [List.setIfInBounds_toArray, List.set_cons_zero, List.set_cons_succ] at this
  exact this
theorem KI.only {w W W' : World} {x : Array Value} (h : KI w x W) (ho : Only [w.heap.size + 1] W W') : Blk W' w.heap.size 38 x ∧ Below w.heap.size w W' :=
  ⟨ho.blk h.1 (by simp), h.2.2.trans (ho.below h.2.2.size (fun k hk => by simp at hk; omega))⟩
def Iso.at_ (x : Iso) (j : Int) : Int := if j = 0 then x.a else if j = 1 then x.b else if j = 2 then x.c else x.d
/-- The glyph of a code, and the state behind it. -/
def mapP (x : Iso) (n : Nat) : Int × Iso := if n % 128 < 32 then (0, x) else (gP (setN (x.at_ (meantP x n))) (n % 128), if sinB x.s = true then { x with s := 0 } else x)
def mapV (p : Int × Iso) : Value := .tuple #[.int .i32 p.1, p.2.val]
theorem in_cases {g : Int} (h : isoInB 0 g = true) : g = 0 ∨ g = 1 ∨ g = 2 ∨ g = 3 := by unfold isoInB at h; simp at h; omega
theorem meant_in (x : Iso) (n : Nat) : meantP x n = 0 ∨ meantP x n = 1 ∨ meantP x n = 2 ∨ meantP x n = 3 := by
  unfold meantP
  by_cases h : sinB x.s = true
  · rw [if_pos h]
    unfold sinB at h
    simp at h
    omega
  · rw [if_neg h]
    by_cases h8 : n < 128
    · rw [if_pos h8]
      unfold leftP
      by_cases h1 : isoInB 0 x.l = true
      · rw [if_pos h1]; exact in_cases h1
      · rw [if_neg h1]; exact .inl rfl
    · rw [if_neg h8]
      unfold rightP
      by_cases h1 : isoInB 0 x.r = true
      · rw [if_pos h1]; exact in_cases h1
      · rw [if_neg h1]; exact .inr (.inr (.inl rfl))

end Go.Proofs.YtfnamfkjbkhgeaaGreatDoor

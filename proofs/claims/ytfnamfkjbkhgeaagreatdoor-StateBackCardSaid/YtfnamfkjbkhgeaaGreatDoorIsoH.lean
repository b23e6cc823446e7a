/-
  States of sets: the reference's glyph of a code, by what is at hand for once.
-/
import Derived.Test.YtfnamfkjbkhgeaaGreatDoorIsoG
namespace Go.Proofs.YtfnamfkjbkhgeaaGreatDoor

open Go Go.RowKit

/-- What is known in its midst. -/
def KJ (w : World) (x : Array Value) (w' : World) : Prop := Blk w' w.heap.size 25 x ∧ Blk w' (w.heap.size + 1) 25 #[.int .i64 0, .int .i64 0, .int .i64 0, .int .i64 0, .int .i64 0, .int .i64 0, .int .i64 0] ∧ Below w.heap.size w w'
theorem KJ.start (w : World) (x : Array Value) : KJ w x ((w.alloc (.cells x 25)).alloc (.cells #[.int .i64 0, .int .i64 0, .int .i64 0, .int .i64 0, .int .i64 0, .int .i64 0, .int .i64 0] 25)) :=
  ⟨(Blk.new w _ x).alloc _, by have := Blk.new (w.alloc (.cells x 25)) 25 #[.int .i64 0, .int .i64 0, .int .i64 0, .int .i64 0, .int .i64 0, .int .i64 0, .int .i64 0]; simpa using this, ((Below.refl _ _).alloc (Nat.le_refl _) _).alloc (by simp) _⟩
theorem KJ.next {w W w' : World} {x : Array Value} (h : KJ w x W) (hb : Below W.heap.size W w') : KJ w x w' := ⟨h.1.next hb, h.2.1.next hb, h.2.2.trans (hb.mono h.2.2.size)⟩
theorem KJ.store {w W : World} {a b c d l r s : Value} (h : KJ w #[a, b, c, d, l, r, s] W) (k : Nat) (v : Value) : KJ w (#[a, b, c, d, l, r, s].setIfInBounds k v) (W.setCell ⟨w.heap.size, k, none⟩ v) :=
  ⟨h.1.set_ k v, Blk.far h.2.1 (by simp) _, h.2.2.setCell (by simp) _⟩
theorem KJ.only {w W W' : World} {x : Array Value} (h : KJ w x W) (ho : Only [w.heap.size + 1] W W') : Blk W' w.heap.size 25 x ∧ Below w.heap.size w W' :=
  ⟨ho.blk h.1 (by simp), h.2.2.trans (ho.below h.2.2.size (fun k hk => by simp at hk; omega))⟩

end Go.Proofs.YtfnamfkjbkhgeaaGreatDoor

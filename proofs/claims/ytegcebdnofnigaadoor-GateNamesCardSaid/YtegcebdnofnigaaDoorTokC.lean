/-
  Tokens: are two alike?
-/
import Derived.Test.YtegcebdnofnigaaDoorTokB
import Derived.Deep.DeepCutAuto
namespace Go.Proofs.YtegcebdnofnigaaDoor

open Go Go.RowKit

/-- The parts of a token in memory. -/
def tkC (k c m : Int) (P : Option Addr) (ps : List Int) (pc : Nat) (s : ByteArray) (D : Option Addr) (dt : List Nat) (dc : Nat) : Array Value := #[.int .i64 k, .int .u8 c, .int .u8 m, .slice P ps.length pc, .string s, .slice D dt.length dc]
/-- What is known with two boxes in memory. -/
def KW (w : World) (T : TypeId) (x y : Array Value) (W : World) : Prop := Blk W w.heap.size T x ∧ Blk W (w.heap.size + 1) T y ∧ Below w.heap.size w W
theorem KW.start (w : World) (T : TypeId) (x y : Array Value) : KW w T x y ((w.alloc (.cells x T)).alloc (.cells y T)) :=
  ⟨(Blk.new w T x).alloc _, by have := Blk.new (w.alloc (.cells x T)) T y; simpa using this, ((Below.refl _ _).alloc (Nat.le_refl _) _).alloc (by simp) _⟩
theorem KW.next {w W W' : World} {T : TypeId} {x y : Array Value} (h : KW w T x y W) (hb : Below W.heap.size W W') : KW w T x y W' := ⟨h.1.next hb, h.2.1.next hb, h.2.2.trans (hb.mono h.2.2.size)⟩
def sameQ (k1 c1 m1 : Int) (ps1 : List Int) (s1 : ByteArray) (dt1 : List Nat) (k2 c2 m2 : Int) (ps2 : List Int) (s2 : ByteArray) (dt2 : List Nat) : Bool :=
  (k1 == k2) && ((c1 == c2) && ((m1 == m2) && ((s1.toList == s2.toList) && ((ps1 == ps2) && decide (bstr dt1 = bstr dt2)))))

end Go.Proofs.YtegcebdnofnigaaDoor

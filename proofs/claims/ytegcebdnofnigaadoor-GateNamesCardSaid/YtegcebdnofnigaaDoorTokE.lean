/-
  Tokens: is nothing too great, is a code one of its kind, are there such bytes alone as may be?
-/
import Derived.Test.YtegcebdnofnigaaDoorTokD
import Derived.Lib.Bytealg
import Derived.Lib.Strings
import Derived.Laws.Externs
import Derived.Laws.Strings3
namespace Go.Proofs.YtegcebdnofnigaaDoor

open Go Go.RowKit



/-- What is known with one box in memory. -/
def K1 (w : World) (T : TypeId) (x : Array Value) (W : World) : Prop := Blk W w.heap.size T x ∧ Below w.heap.size w W
theorem K1.start (w : World) (T : TypeId) (x : Array Value) : K1 w T x (w.alloc (.cells x T)) := ⟨Blk.new w T x, (Below.refl _ _).alloc (Nat.le_refl _) _⟩
theorem K1.next {w W W' : World} {T : TypeId} {x : Array Value} (h : K1 w T x W) (hb : Below W.heap.size W W') : K1 w T x W' := ⟨h.1.next hb, h.2.trans (hb.mono h.2.size)⟩
/-- A byte that leads to another kind, or ends a string. -/
def leadsB (c : Nat) : Bool := [80, 88, 91, 92, 93, 94, 95].contains c
theorem leads_idx : ∀ c : Nat, c < 256 → decide (0 ≤ Lib.indexByte [91, 80, 93, 88, 94, 95] (c : Int).toNat.toUInt8) = (leadsB c && (c != 92)) := by decide +kernel

def smallB (ps : List Int) (s : ByteArray) (dt : List Nat) : Bool := decide (s.size ≤ 3) && (decide (ps.length ≤ 30) && (decide (dt.length ≤ 4096) && !(ps.any outB)))
def codedB (k : Int) (c : Nat) (s : ByteArray) : Bool :=
  if k = 1 then amongB c 32 126 || decide (160 ≤ c)
  else if k = 2 then amongB c 1 31 && ((c != 24) && (c != 27))
  else if k = 3 then amongB c 48 126 && (!decide (s.size = 0) || !leadsB c)
  else if k = 4 ∨ k = 5 then amongB c 64 126
  else true


end Go.Proofs.YtegcebdnofnigaaDoor

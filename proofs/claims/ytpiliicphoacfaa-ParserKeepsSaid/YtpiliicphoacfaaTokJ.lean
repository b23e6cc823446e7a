/-
  Tokens: what kind of function one is; its bytes behind an escape.
-/
import Derived.Test.YtpiliicphoacfaaTokI
namespace Go.Proofs.Ytpiliicphoacfaa

open Go Go.RowKit

def idP (k : Int) (c m : Nat) (s : ByteArray) : ByteArray := if 3 ≤ k ∧ k ≤ 5 then bstr (signsL c m [] s) else ⟨#[]⟩
theorem K1.set {w W : World} {T : TypeId} {x : Array Value} (h : K1 w T x W) (i : Nat) (v : Value) : K1 w T (x.setIfInBounds i v) (W.setCell ⟨w.heap.size, i, none⟩ v) := ⟨h.1.set_ i v, h.2.setCell (p := ⟨w.heap.size, i, none⟩) (by simp) v⟩

def escL (c m : Nat) (ps : List Int) (s : ByteArray) (eight : Bool) : List Nat := if s.size = 0 then leadL c eight else 27 :: signsL c m ps s

end Go.Proofs.Ytpiliicphoacfaa

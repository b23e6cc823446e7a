/-
  The walks of what collects numbers byte by byte.
-/
import Derived.Test.YtegcebdnofnigaaDoorParB
namespace Go.Proofs.YtegcebdnofnigaaDoor

open Go.RowKit

theorem grown_set {w : World} {g o : Nat} {v : Value} : w.grownBy (w.setCell ⟨g, o, none⟩ v) (some g) :=
  ⟨rfl, rfl, rfl, by simp [World.setCell], fun k _ hk => Below.heap_setCell w _ v k (by simpa using hk)⟩
theorem grown_drew {w w' : World} {r : Option Nat} (h : w.grownBy w' r) : w.grownBy w'.drew r := ⟨h.os, h.tape, h.output, h.size, h.block⟩
theorem grown_trans {a b c : World} {r : Option Nat} (h : a.grownBy b r) (h' : b.grownBy c r) : a.grownBy c r :=
  ⟨h'.os.trans h.os, h'.tape.trans h.tape, h'.output.trans h.output, Nat.le_trans h.size h'.size, fun k hk hn => (h'.block k (Nat.lt_of_lt_of_le hk h.size) hn).trans (h.block k hk hn)⟩
/-- One digit more. -/
def digF (fs : List Int) (d : Int) : List Int := if fs = [] then [sat1 0 d] else fs.dropLast ++ [sat1 (fs.getLastD 0) d]


/-- One semicolon more. -/
def semF (fs : List Int) : List Int := if fs = [] then [0, 0] else fs ++ [0]

theorem stepF_eq (fs : List Int) (b : UInt8) : stepF fs b = if b = 59 then semF fs else digF fs (dgt b) := rfl


end Go.Proofs.YtegcebdnofnigaaDoor

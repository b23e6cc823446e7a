/-
  Tokens: what one is in memory; the small calls.
-/
import Derived.Test.YtegcebdnofnigaaDoorParL
import Derived.Test.YtegcebdnofnigaaDoorMixE
import Derived.Test.YtegcebdnofnigaaDoorKit3
namespace Go.Proofs.YtegcebdnofnigaaDoor

open Go Go.RowKit

/-- A slice of bytes that reads as ns. -/
def RByt (W : World) (A : Option Addr) (ns : List Nat) : Prop := Reads W W.heap.size 1 A ns.length (ns.map fun (n : Nat) => Value.int .u8 (n : Int))
theorem RByt.next {w w' : World} {A : Option Addr} {ns : List Nat} (h : RByt w A ns) (hb : Below w.heap.size w w') : RByt w' A ns := (Reads.below h hb).more hb.size
theorem RByt.at_ {w : World} {A : Option Addr} {ns : List Nat} (h : RByt w A ns) {k : Nat} (hk : k < ns.length) :
    ∃ ad, A = some ad ∧ ad.block < w.heap.size ∧ w.cell? (ad.add k) = some (.int .u8 (ns[k] : Int)) := by
  obtain ⟨ad, u, e, hb, hu, hc⟩ := Reads.at_ h hk
  refine ⟨ad, e, hb, ?_⟩
  rw [hc, ← hu, List.getElem?_map, List.getElem?_eq_getElem hk]
  rfl
/-- A token, as its parts. -/
structure Tok where
  kd : Int
  cd : Nat
  mr : Nat
  ps : List Int
  it : ByteArray
  dt : List Nat
def Tok.cs (t : Tok) (A : Option Addr) (c : Nat) (B : Option Addr) (d : Nat) : Array Value := #[.int .i64 t.kd, .int .u8 (t.cd : Int), .int .u8 (t.mr : Int), .slice A t.ps.length c, .string t.it, .slice B t.dt.length d]
structure Tok.ok (t : Tok) : Prop where
  cd : t.cd < 256
  mr : t.mr < 256
  ps : t.ps.length ≤ maxLen
  it : t.it.size ≤ maxLen
  dt : t.dt.length ≤ maxLen
  by_ : ∀ n ∈ t.dt, n < 256
theorem six {w : World} {g : Nat} {T : TypeId} {v0 v1 v2 v3 v4 v5 : Value} (h : Blk w g T #[v0, v1, v2, v3, v4, v5]) :
    w.cell? ⟨g, 0, none⟩ = some v0 ∧ w.cell? ⟨g, 1, none⟩ = some v1 ∧ w.cell? ⟨g, 2, none⟩ = some v2 ∧ w.cell? ⟨g, 3, none⟩ = some v3 ∧ w.cell? ⟨g, 4, none⟩ = some v4 ∧ w.cell? ⟨g, 5, none⟩ = some v5 :=
  ⟨h.cell 0, h.cell 1, h.cell 2, h.cell 3, h.cell 4, h.cell 5⟩
theorem six_fr {w : World} {g : Nat} {T : TypeId} {cs : Array Value} (h : Blk w g T cs) :
    w.frozen? ⟨g, 0, none⟩ = false ∧ w.frozen? ⟨g, 1, none⟩ = false ∧ w.frozen? ⟨g, 2, none⟩ = false ∧ w.frozen? ⟨g, 3, none⟩ = false ∧ w.frozen? ⟨g, 4, none⟩ = false ∧ w.frozen? ⟨g, 5, none⟩ = false :=
  ⟨h.frozen 0, h.frozen 1, h.frozen 2, h.frozen 3, h.frozen 4, h.frozen 5⟩
def amongB (n lo hi : Nat) : Bool := decide (lo ≤ n) && decide (n ≤ hi)

def outB (n : Int) : Bool := n != clipP n 0 65535

def noDataB (n : Nat) : Bool := !amongB n 8 13 && (!amongB n 32 126 && decide (n < 160))

end Go.Proofs.YtegcebdnofnigaaDoor

/-
  Tokens: bytes of the call's own; what leads a sequence; its signs.
-/
import Derived.Test.YtpiliicphoacfaaTokG
import Derived.Lib.AppendStr
namespace Go.Proofs.Ytpiliicphoacfaa

open Go Go.RowKit

/-- A slice of the call's own that holds just these bytes. -/
def OByt (w : World) (base : Nat) (v : Value) (ns : List Nat) : Prop := w.ownsRow base 5 1 v ns.length (ns.map fun (n : Nat) => Value.int .u8 (n : Int))
theorem obyt_own {w : World} {base : Nat} {v : Value} {ns : List Nat} (h : OByt w base v ns) : w.ownsRow base 5 1 v ns.length (ns.map fun (n : Nat) => Value.int .u8 (n : Int)) := h
theorem OByt.next {w w' : World} {base : Nat} {v : Value} {l : List Nat} (h : OByt w base v l) (hb : Below w.heap.size w w') : OByt w' base v l :=
  World.ownsRow.kept (row := none) h ⟨hb.os, hb.tape, hb.output, hb.size, fun k hk _ => hb.block k hk⟩ (by cases v.ownBlock <;> simp)
theorem OByt.reads {w : World} {base : Nat} {A : Option Addr} {c : Nat} {ns : List Nat} (h : OByt w base (.slice A ns.length c) ns) : RByt w A ns := Reads.of_own h
theorem OByt.form {w : World} {base : Nat} {v : Value} {ns : List Nat} (h : OByt w base v ns) : ∃ A c, v = .slice A ns.length c := by
  rcases h.2 with ⟨rfl, hn⟩ | ⟨g, cap, _, rfl, _⟩
  · exact ⟨none, 0, by rw [hn]⟩
  · exact ⟨_, _, rfl⟩
theorem oby_one (ns : List Nat) : ∀ u ∈ ns.map (fun (n : Nat) => Value.int .u8 (n : Int)), u.oneCell' = true := by
  intro u hu
  obtain ⟨n, _, rfl⟩ := List.mem_map.1 hu
  rfl
theorem strCells_nat (s : ByteArray) : Lib.strCells s = (s.data.toList.map UInt8.toNat).map fun (n : Nat) => Value.int .u8 (n : Int) := by
  unfold Lib.strCells
  simp
def leadL (c : Nat) (eight : Bool) : List Nat := if eight = true ∧ 64 ≤ c ∧ c ≤ 95 then [c + 64] else [27, c]

end Go.Proofs.Ytpiliicphoacfaa

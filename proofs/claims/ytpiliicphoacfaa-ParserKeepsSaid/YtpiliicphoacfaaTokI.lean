/-
  Tokens: the signs of a sequence, as they stand behind one another.
-/
import Derived.Test.YtpiliicphoacfaaTokH
import Derived.Test.YtpiliicphoacfaaParP
namespace Go.Proofs.Ytpiliicphoacfaa

open Go Go.RowKit

def natL (l : List UInt8) : List Nat := l.map UInt8.toNat
def signsL (c m : Nat) (ps : List Int) (s : ByteArray) : List Nat := (if m = 0 then [] else [m]) ++ natL (fmtL ps) ++ natL s.data.toList ++ [c]
theorem obyt_string {w : World} {base : Nat} {v : Value} {ns : List Nat} (s : ByteArray) (h : w.ownsRow base 5 1 v (ns.length + s.size) (ns.map (fun (n : Nat) => Value.int .u8 (n : Int)) ++ Lib.strCells s)) : OByt w base v (ns ++ natL s.data.toList) := by
  unfold OByt natL
  rw [strCells_nat, ← List.map_append] at h
  rw [List.length_append, List.length_map, dlen]
  exact h
theorem obyt_push {w : World} {base : Nat} {v : Value} {ns : List Nat} (n : Nat) (h : w.ownsRow base 5 1 v (ns.length + 1) (ns.map (fun (n : Nat) => Value.int .u8 (n : Int)) ++ [.int .u8 (n : Int)])) : OByt w base v (ns ++ [n]) := by
  unfold OByt
  rw [List.length_append, List.map_append]
  exact h
theorem below_str {W w' : World} {base : Nat} {v : Value} {ns : List Nat} (h : OByt W base v ns) (hb : base ≤ W.heap.size) (hg : W.grownBy w' v.ownBlock) : Below base W w' :=
  ((Below.refl _ _).mono hb).grown hg hb (fun k hk => (World.ownsRow.lt (obyt_own h) k hk).1)
/-- What is known in its midst: the box of the token, what has been written so far. -/
def KO (w : World) (x : Array Value) (v : Value) (l : List Nat) (W : World) : Prop := Blk W w.heap.size 27 x ∧ Below w.heap.size w W ∧ OByt W (w.heap.size + 1) v l ∧ w.heap.size + 1 ≤ W.heap.size
theorem KO.next {w W W' : World} {x : Array Value} {v : Value} {l : List Nat} (h : KO w x v l W) (hb : Below W.heap.size W W') : KO w x v l W' := ⟨h.1.next hb, h.2.1.trans (hb.mono h.2.1.size), h.2.2.1.next hb, Nat.le_trans h.2.2.2 hb.size⟩
theorem KO.more {w W W' : World} {x : Array Value} {v v' : Value} {l l' : List Nat} (h : KO w x v l W) (hb : Below (w.heap.size + 1) W W') (ho : OByt W' (w.heap.size + 1) v' l') : KO w x v' l' W' := ⟨h.1.below hb (by omega), h.2.1.trans (hb.mono (by omega)), ho, Nat.le_trans h.2.2.2 hb.size⟩
theorem info_u8 : ∃ i, Try.prog.info? 5 = some i ∧ i.zero = some (.int .u8 0) ∧ i.size = 1 ∧ i.bytes = 1 := info_parts info_byte
theorem natL_len (l : List UInt8) : (natL l).length = l.length := by unfold natL; simp
theorem obyt_nil (w : World) (base : Nat) : OByt w base (.slice none 0 0) [] := World.ownsRow_nil _ _ _ _
theorem bytesOf_list (l : List UInt8) : (bytesOf l).data.toList = l := rfl
theorem bytesOf_size (l : List UInt8) : (bytesOf l).size = l.length := by rw [← dlen]; rfl

end Go.Proofs.Ytpiliicphoacfaa

/-
  Tokens: their bytes.
-/
import Derived.Test.YtpiliicphoacfaaTokJ
namespace Go.Proofs.Ytpiliicphoacfaa

open Go Go.RowKit

def begN (k : Int) : Nat := if k = 4 then 91 else if k = 5 then 80 else if k = 6 then 93 else if k = 7 then 88 else if k = 8 then 94 else 95
def bytesL (k : Int) (c m : Nat) (ps : List Int) (s : ByteArray) (dt : List Nat) (eight : Bool) : List Nat :=
  if k = 1 ∨ k = 2 then [c]
  else if k = 3 then escL c m ps s eight
  else leadL (begN k) eight ++ (if k = 4 ∨ k = 5 then signsL c m ps s else []) ++ (if k = 4 then [] else dt ++ leadL 92 eight)
theorem KO.append {w W W' : World} {x : Array Value} {v v' : Value} {l r : List Nat} (h : KO w x v l W) (ho : W'.ownsRow (w.heap.size + 1) 5 1 v' (l.length + r.length) (l.map (fun (n : Nat) => Value.int .u8 (n : Int)) ++ r.map (fun (n : Nat) => Value.int .u8 (n : Int)))) (hg : W.grownBy W' v.ownBlock) : KO w x v' (l ++ r) W' :=
  h.more (below_str h.2.2.1 h.2.2.2 hg) (by unfold OByt; rw [List.length_append, List.map_append]; exact ho)
theorem check_zero {k : Int} {c m : Nat} {ps : List Int} {s : ByteArray} {dt : List Nat} (h : checkP k c m ps s dt = 0) : 1 ≤ k ∧ k ≤ 9 ∧ s.size ≤ 3 ∧ ps.length ≤ 30 ∧ dt.length ≤ 4096 ∧ ps.any outB = false ∧ pureB k c m ps s dt = true ∧ codedB k c s = true ∧ writtenB m s dt = true := by
  unfold checkP at h
  split at h
  · cases h
  · rename_i h1
    split at h
    · cases h
    · rename_i h2
      split at h
      · cases h
      · rename_i h3
        simp only [Bool.not_eq_false, smallB, Bool.and_eq_true, decide_eq_true_eq, Bool.not_eq_true'] at h2 h3
        exact ⟨by omega, by omega, h2.1, h2.2.1, h2.2.2.1, h2.2.2.2, h3.1, h3.2.1, h3.2.2⟩
theorem lead_len (c : Nat) (e : Bool) : (leadL c e).length ≤ 2 := by unfold leadL; split <;> simp
theorem signs_len (c m : Nat) (ps : List Int) (s : ByteArray) (h : s.size ≤ 3) : (signsL c m ps s).length ≤ 190 := by
  have := fmt_len ps
  unfold signsL
  simp only [List.length_append, natL_len, dlen, List.length_cons, List.length_nil]
  split
  · simp; omega
  · simp; omega
/-- What is answered: an error and nothing, or the bytes. -/
def BytesR (w w' : World) (e : Ending) (k : Int) (c m : Nat) (ps : List Int) (s : ByteArray) (dt : List Nat) (eight : Bool) : Prop :=
  (checkP k c m ps s dt ≠ 0 ∧ e = .returned (.tuple #[.slice none 0 0, .int .i64 (checkP k c m ps s dt)])) ∨ (checkP k c m ps s dt = 0 ∧ ∃ v, e = .returned (.tuple #[v, .int .i64 0]) ∧ OByt w' (w.heap.size + 1) v (bytesL k c m ps s dt eight))

end Go.Proofs.Ytpiliicphoacfaa

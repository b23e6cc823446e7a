/-
  Plain facts on the letters of renditions.
-/
import Derived.Test.YtdjbfnhgendacaaDoorPlain
import Derived.Laws.BytesArg
namespace Go.Proofs.YtdjbfnhgendacaaDoor
open Go

/-- Its letters, as numbers, up to the k-th part; and as a text. -/
def letN (x : Int) : Nat → List Int
  | 0 => []
  | k + 1 => letN x k ++ if fb x k then [pLet k] else []
def letS (x : Int) : ByteArray := strOfNums (letN x 5)
theorem letN_len (x : Int) : ∀ k, (letN x k).length ≤ k
  | 0 => by simp [letN]
  | k + 1 => by
    have := letN_len x k
    rw [letN, List.length_append]
    split <;> simp <;> omega
theorem par_letN_len (x : Int) : ∀ k, (parK x k).length = (letN x k).length + 1
  | 0 => rfl
  | k + 1 => by
    rw [parK, letN, List.length_append, List.length_append, par_letN_len x k]
    split <;> simp
theorem letS_size (x : Int) : (letS x).size = (letN x 5).length := strOfNums_size _
/-- One letter more, if so. -/
def addL (t : ByteArray) (b : Bool) (c : UInt8) : ByteArray := if b then t ++ ⟨#[c]⟩ else t
def letOf (a b c d e : Bool) : ByteArray := addL (addL (addL (addL (addL ⟨#[]⟩ a 98) b 117) c 107) d 114) e 104
theorem letS_of (x : Int) : letS x = letOf (fb x 0) (fb x 1) (fb x 2) (fb x 3) (fb x 4) := by
  simp only [letS, letN, letOf]
  generalize fb x 0 = a; generalize fb x 1 = b; generalize fb x 2 = c; generalize fb x 3 = d; generalize fb x 4 = e
  cases a <;> cases b <;> cases c <;> cases d <;> cases e <;> decide +kernel
theorem addL_size {t : ByteArray} {n : Nat} (h : t.size ≤ n) (b : Bool) (c : UInt8) : (addL t b c).size ≤ n + 1 := by
  unfold addL
  cases b
  · simp; omega
  · simp only [if_true, ByteArray.size_append]; show t.size + 1 ≤ n + 1; omega
/-- The rendition that a text of letters is, letter by letter: what is taken from place p on, up to the k-th part. -/
def takes (s : ByteArray) (p k : Nat) : Prop := ∃ h : p < s.size, (s[p].toNat : Int) = pLet k
instance (s : ByteArray) (p k : Nat) : Decidable (takes s p k) := inferInstanceAs (Decidable (∃ h : p < s.size, (s[p].toNat : Int) = pLet k))
def fromAt (s : ByteArray) : Nat → Nat × Int
  | 0 => (0, 0)
  | k + 1 => if takes s (fromAt s k).1 k then ((fromAt s k).1 + 1, bits .or .u8 (fromAt s k).2 (pBit k)) else fromAt s k
/-- The rendition, and the error's number. -/
def fromP (s : ByteArray) : Int × Int := if (fromAt s 5).1 < s.size then (0, 3) else ((fromAt s 5).2, 0)
theorem fromP_no {s : ByteArray} (h : (fromAt s 5).1 < s.size) : fromP s = (0, 3) := if_pos h
theorem fromP_yes {s : ByteArray} (h : ¬ (fromAt s 5).1 < s.size) : fromP s = ((fromAt s 5).2, 0) := if_neg h
theorem fromAt_step (s : ByteArray) (k : Nat) :
    (∀ h : (fromAt s k).1 < s.size, (s[(fromAt s k).1].toNat : Int) = pLet k → (fromAt s (k + 1)).1 = (fromAt s k).1 + 1 ∧ (fromAt s (k + 1)).2 = bits .or .u8 (fromAt s k).2 (pBit k)) ∧
    ((¬ (fromAt s k).1 < s.size ∨ ∃ h : (fromAt s k).1 < s.size, ¬ (s[(fromAt s k).1].toNat : Int) = pLet k) → (fromAt s (k + 1)).1 = (fromAt s k).1 ∧ (fromAt s (k + 1)).2 = (fromAt s k).2) := by
  refine ⟨fun h he => ?_, fun h => ?_⟩
  · have ht : takes s (fromAt s k).1 k := ⟨h, he⟩
    simp [fromAt, ht]
  · have ht : ¬ takes s (fromAt s k).1 k := fun ⟨h1, h2⟩ => h.elim (fun g => g h1) (fun ⟨_, g⟩ => g h2)
    simp [fromAt, ht]
theorem fromAt_range (s : ByteArray) : ∀ k, k ≤ 5 → (fromAt s k).1 ≤ k ∧ (fromAt s k).1 ≤ s.size ∧ 0 ≤ (fromAt s k).2 ∧ (fromAt s k).2 < 32
  | 0, _ => ⟨Nat.le_refl _, Nat.zero_le _, Int.le_refl _, by show (0 : Int) < 32; decide⟩
  | k + 1, hk => by
    obtain ⟨a, b, c, d⟩ := fromAt_range s k (by omega)
    rw [fromAt]
    split
    · rename_i h
      have hp : (fromAt s k).1 < s.size := h.1
      have r := ((ap1_parts c d).1 k (by omega))
      exact ⟨by show (fromAt s k).1 + 1 ≤ _; omega, by show (fromAt s k).1 + 1 ≤ _; omega, r.1, r.2.1⟩
    · exact ⟨by omega, b, c, d⟩
end Go.Proofs.YtdjbfnhgendacaaDoor

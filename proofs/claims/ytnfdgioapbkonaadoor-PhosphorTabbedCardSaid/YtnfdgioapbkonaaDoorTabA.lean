/-
  Words of bits; a terminal's stops as a block.
-/
import Derived.Test.YtnfdgioapbkonaaDoorGen
import Derived.Test.YtnfdgioapbkonaaDoorKit2
namespace Go.Proofs.YtnfdgioapbkonaaDoor

open Go.RowKit

/-- Is there a stop? -/
def hasW (ws : List Nat) (c : Nat) : Bool := (ws.getD (c / 64) 0).testBit (c % 64)
def bitV (x y : BitVec 64) : Int := IntKind.u64.wrap ((x &&& y).toNat : Int)
theorem wrap_bv (v : BitVec 64) : IntKind.u64.wrap (v.toNat : Int) = (v.toNat : Int) := by
  have h := v.isLt
  have : (v.toNat : Int) % 18446744073709551616 = v.toNat := Int.emod_eq_of_lt (by omega) (by omega)
  simpa [IntKind.wrap, IntKind.signed, IntKind.bits] using this
theorem ofInt_nat (x : Nat) : BitVec.ofInt 64 (x : Int) = BitVec.ofNat 64 x := by
  apply BitVec.eq_of_toNat_eq
  simp
def orB (x k : Nat) : Nat := (BitVec.ofNat 64 x ||| BitVec.ofNat 64 (2 ^ k)).toNat
def clrB (x k : Nat) : Nat := (BitVec.ofNat 64 x &&& ~~~BitVec.ofNat 64 (2 ^ k)).toNat
def andB (x k : Nat) : Nat := (BitVec.ofNat 64 x &&& BitVec.ofNat 64 (2 ^ k)).toNat
theorem bits_or (x k : Nat) : bits .or .u64 (x : Int) ((2 ^ k : Nat) : Int) = (orB x k : Int) := by
  show IntKind.u64.wrap ((BitVec.ofInt 64 (x : Int) ||| BitVec.ofInt 64 ((2 ^ k : Nat) : Int)).toNat : Int) = _
  rw [wrap_bv, ofInt_nat, ofInt_nat]; rfl
theorem bits_clr (x k : Nat) : bits .andNot .u64 (x : Int) ((2 ^ k : Nat) : Int) = (clrB x k : Int) := by
  show IntKind.u64.wrap ((BitVec.ofInt 64 (x : Int) &&& ~~~BitVec.ofInt 64 ((2 ^ k : Nat) : Int)).toNat : Int) = _
  rw [wrap_bv, ofInt_nat, ofInt_nat]; rfl
theorem bits_and (x k : Nat) : bits .and .u64 (x : Int) ((2 ^ k : Nat) : Int) = (andB x k : Int) := by
  show IntKind.u64.wrap ((BitVec.ofInt 64 (x : Int) &&& BitVec.ofInt 64 ((2 ^ k : Nat) : Int)).toNat : Int) = _
  rw [wrap_bv, ofInt_nat, ofInt_nat]; rfl
theorem orB_lt (x k : Nat) : orB x k < 2 ^ 64 := BitVec.isLt _
theorem clrB_lt (x k : Nat) : clrB x k < 2 ^ 64 := BitVec.isLt _
theorem orB_bit (x k j : Nat) (hj : j < 64) : (orB x k).testBit j = (x.testBit j || decide (k = j)) := by
  unfold orB
  rw [BitVec.testBit_toNat, BitVec.getLsbD_or, BitVec.getLsbD_ofNat, BitVec.getLsbD_ofNat, Nat.testBit_two_pow]
  simp [hj]
theorem clrB_bit (x k j : Nat) (hj : j < 64) : (clrB x k).testBit j = (x.testBit j && !decide (k = j)) := by
  unfold clrB
  rw [BitVec.testBit_toNat, BitVec.getLsbD_and, BitVec.getLsbD_not, BitVec.getLsbD_ofNat, BitVec.getLsbD_ofNat, Nat.testBit_two_pow]
  simp [hj]
theorem andB_bit (x k j : Nat) (hj : j < 64) : (andB x k).testBit j = (x.testBit j && decide (k = j)) := by
  unfold andB
  rw [BitVec.testBit_toNat, BitVec.getLsbD_and, BitVec.getLsbD_ofNat, BitVec.getLsbD_ofNat, Nat.testBit_two_pow]
  simp [hj]
theorem andB_zero (x k : Nat) (hk : k < 64) : andB x k = 0 ↔ x.testBit k = false := by
  constructor
  · intro h
    have := andB_bit x k k hk
    rw [h] at this
    simpa using this.symm
  · intro h
    apply Nat.eq_of_testBit_eq
    intro j
    rw [Nat.zero_testBit]
    by_cases hj : j < 64
    · rw [andB_bit x k j hj]
      by_cases e : k = j
      · subst e; simp [h]
      · simp [e]
    · apply Nat.testBit_lt_two_pow
      have := (BitVec.ofNat 64 x &&& BitVec.ofNat 64 (2 ^ k)).isLt
      exact Nat.lt_of_lt_of_le this (Nat.pow_le_pow_right (by omega) (by omega))
theorem and_test (x k : Nat) (hk : k < 64) : ((andB x k : Int) != 0) = x.testBit k := by
  rcases hb : x.testBit k with _ | _
  · simp [(andB_zero x k hk).2 hb]
  · have : andB x k ≠ 0 := fun e => by rw [(andB_zero x k hk).1 e] at hb; cases hb
    simp; omega

/-- One word changed. -/
def setW (ws : List Nat) (c : Nat) (f : Nat → Nat → Nat) : List Nat := ws.set (c / 64) (f (ws.getD (c / 64) 0) (c % 64))
theorem setW_len (ws : List Nat) (c : Nat) (f : Nat → Nat → Nat) : (setW ws c f).length = ws.length := by simp [setW]
theorem hasW_or (ws : List Nat) (c d : Nat) (hc : c / 64 < ws.length) : hasW (setW ws c orB) d = (hasW ws d || decide (c = d)) := by
  unfold hasW setW
  rw [List.getD_eq_getElem?_getD, List.getElem?_set]
  by_cases e : c / 64 = d / 64
  · rw [if_pos e, if_pos hc]
    simp only [Option.getD_some]
    rw [orB_bit _ _ _ (Nat.mod_lt _ (by omega)), e]
    congr 1
    rw [decide_eq_decide]
    omega
  · rw [if_neg e, ← List.getD_eq_getElem?_getD]
    have : decide (c = d) = false := by simp; rintro rfl; exact e rfl
    rw [this, Bool.or_false]
theorem hasW_clr (ws : List Nat) (c d : Nat) (hc : c / 64 < ws.length) : hasW (setW ws c clrB) d = (hasW ws d && !decide (c = d)) := by
  unfold hasW setW
  rw [List.getD_eq_getElem?_getD, List.getElem?_set]
  by_cases e : c / 64 = d / 64
  · rw [if_pos e, if_pos hc]
    simp only [Option.getD_some]
    rw [clrB_bit _ _ _ (Nat.mod_lt _ (by omega)), e]
    congr 2
    rw [decide_eq_decide]
    omega
  · rw [if_neg e, ← List.getD_eq_getElem?_getD]
    have : decide (c = d) = false := by simp; rintro rfl; exact e rfl
    rw [this, Bool.not_false, Bool.and_true]

/-- The cells of a terminal's stops. -/
def stopsC (n : Nat) (ws : List Nat) : Array Value := (Value.int .i64 n :: ws.map fun (x : Nat) => Value.int .u64 (x : Int)).toArray
/-- Stops that are just those of the list: one for each column. -/
structure StW (n : Nat) (ws : List Nat) (h : Nat → Bool) : Prop where
  len : ws.length = 8
  lt : ∀ (k x : Nat), ws[k]? = some x → x < 2 ^ 64
  cols : n ≤ 500
  has : ∀ c, c < 512 → hasW ws c = h c
theorem stopsC_word (n : Nat) (ws : List Nat) (k x : Nat) (h : ws[k]? = some x) : (stopsC n ws)[1 + k]? = some (.int .u64 (x : Int)) := by
  unfold stopsC
  rw [List.getElem?_toArray, Nat.add_comm, List.getElem?_cons_succ, List.getElem?_map, h]
  rfl
theorem stopsC_set (n : Nat) (ws : List Nat) (k y : Nat) : (stopsC n ws).setIfInBounds (1 + k) (.int .u64 (y : Int)) = stopsC n (ws.set k y) := by
  unfold stopsC
  rw [List.setIfInBounds_toArray, Nat.add_comm, List.set_cons_succ, List.map_set]
theorem StW.or {n : Nat} {ws : List Nat} {h : Nat → Bool} (s : StW n ws h) {c : Nat} (hc : c < 500) : StW n (setW ws c orB) (fun d => h d || decide (c = d)) :=
  ⟨by rw [setW_len, s.len], fun k x hx => by
    unfold setW at hx
    rw [List.getElem?_set] at hx
    split at hx
    · split at hx
      · injection hx with hx; rw [← hx]; exact orB_lt _ _
      · cases hx
    · exact s.lt k x hx, s.cols, fun d hd => by rw [hasW_or _ _ _ (by rw [s.len]; omega), s.has d hd]⟩
theorem StW.clr {n : Nat} {ws : List Nat} {h : Nat → Bool} (s : StW n ws h) {c : Nat} (hc : c < 500) : StW n (setW ws c clrB) (fun d => h d && !decide (c = d)) :=
  ⟨by rw [setW_len, s.len], fun k x hx => by
    unfold setW at hx
    rw [List.getElem?_set] at hx
    split at hx
    · split at hx
      · injection hx with hx; rw [← hx]; exact clrB_lt _ _
      · cases hx
    · exact s.lt k x hx, s.cols, fun d hd => by rw [hasW_clr _ _ _ (by rw [s.len]; omega), s.has d hd]⟩
/-- The stops of a terminal, in memory: so many columns, and where there is a stop. -/
def Stp (w : World) (B n : Nat) (h : Nat → Bool) : Prop := ∃ ws, Blk w B 56 (stopsC n ws) ∧ StW n ws h
theorem Stp.next {w w' : World} {B n : Nat} {h : Nat → Bool} (s : Stp w B n h) (hb : Below w.heap.size w w') : Stp w' B n h := let ⟨ws, h1, h2⟩ := s; ⟨ws, h1.next hb, h2⟩
theorem Stp.lt {w : World} {B n : Nat} {h : Nat → Bool} (s : Stp w B n h) : B < w.heap.size := let ⟨_, h1, _⟩ := s; h1.lt
theorem Stp.cols {w : World} {B n : Nat} {h : Nat → Bool} (s : Stp w B n h) : w.cell? ⟨B, 0, none⟩ = some (.int .i64 n) ∧ n ≤ 500 := let ⟨_, h1, h2⟩ := s; ⟨h1.cell 0, h2.cols⟩
theorem Stp.to {w : World} {B n : Nat} {h h' : Nat → Bool} (s : Stp w B n h) (e : ∀ c, c < 512 → h c = h' c) : Stp w B n h' := let ⟨ws, h1, h2⟩ := s; ⟨ws, h1, h2.len, h2.lt, h2.cols, fun c hc => (h2.has c hc).trans (e c hc)⟩
theorem grown_set1 {w : World} {g o : Nat} {v : Value} : w.grownBy (w.setCell ⟨g, o, none⟩ v) (some g) :=
  ⟨rfl, rfl, rfl, by simp [World.setCell], fun k _ hk => Below.heap_setCell w _ v k (by simpa using hk)⟩
theorem grown_tr {a b c : World} {r : Option Nat} (h : a.grownBy b r) (h' : b.grownBy c r) : a.grownBy c r :=
  ⟨h'.os.trans h.os, h'.tape.trans h.tape, h'.output.trans h.output, Nat.le_trans h.size h'.size, fun k hk hn => (h'.block k (Nat.lt_of_lt_of_le hk h.size) hn).trans (h.block k hk hn)⟩
theorem grown_of_below {w w' : World} {r : Option Nat} (h : Below w.heap.size w w') : w.grownBy w' r := ⟨h.os, h.tape, h.output, h.size, fun k hk _ => h.block k hk⟩
theorem below_of_grown {B g : Nat} {w0 w w' : World} (h : Below B w0 w) (hg : w.grownBy w' (some g)) (hB : B ≤ w.heap.size) (hgB : B ≤ g) : Below B w0 w' := h.grown hg hB (fun k hk => by injection hk with e; omega)
end Go.Proofs.YtnfdgioapbkonaaDoor

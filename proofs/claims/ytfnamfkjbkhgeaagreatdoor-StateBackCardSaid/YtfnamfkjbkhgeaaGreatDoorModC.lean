/-
  The modes' table, words of modes as numbers; the world that holds the table.
  The walks of modes: is a number a mode's, its bit, set or not, without what is none, the mode of a number, its number, as at the beginning, what is told.
  The walks of the reference's table of modes, bits, sets; what it finds and tells.
-/
import Derived.Test.YtfnamfkjbkhgeaaGreatDoorGen
namespace Go.Proofs.YtfnamfkjbkhgeaaGreatDoor

open Go Go.RowKit

def decP (k : Nat) : Bool := decide (4 ≤ k)
def numP : Nat → Int
  | 0 => 2 | 1 => 4 | 2 => 12 | 3 => 20 | 4 => 1 | 5 => 5 | 6 => 6 | 7 => 7 | 8 => 8 | 9 => 25 | 10 => 42 | 11 => 64 | 12 => 66 | 13 => 67 | 14 => 68 | 15 => 69 | 16 => 95 | _ => 0
def frmP : Nat → Int
  | 9 => 2 | 10 => 2 | 11 => 3 | 12 => 3 | 13 => 3 | 14 => 3 | 15 => 4 | 16 => 5 | _ => 1
def mbegP (k : Nat) : Bool := k == 2 || k == 7 || k == 8 || k == 9 || k == 11
def factV (k : Nat) : Value := .agg #[.bool (decP k), .int .i64 (numP k), .int .i64 (frmP k), .bool (mbegP k)]
def modCells : List Value := [.bool false, .int .i64 2, .int .i64 1, .bool false, .bool false, .int .i64 4, .int .i64 1, .bool false, .bool false, .int .i64 12, .int .i64 1, .bool true, .bool false, .int .i64 20, .int .i64 1, .bool false,
  .bool true, .int .i64 1, .int .i64 1, .bool false, .bool true, .int .i64 5, .int .i64 1, .bool false, .bool true, .int .i64 6, .int .i64 1, .bool false, .bool true, .int .i64 7, .int .i64 1, .bool true, .bool true, .int .i64 8, .int .i64 1, .bool true,
  .bool true, .int .i64 25, .int .i64 2, .bool true, .bool true, .int .i64 42, .int .i64 2, .bool false, .bool true, .int .i64 64, .int .i64 3, .bool true, .bool true, .int .i64 66, .int .i64 3, .bool false, .bool true, .int .i64 67, .int .i64 3, .bool false,
  .bool true, .int .i64 68, .int .i64 3, .bool false, .bool true, .int .i64 69, .int .i64 4, .bool false, .bool true, .int .i64 95, .int .i64 5, .bool false]
def modV : Value := .agg modCells.toArray
/-- The world holds the table of modes. -/
def Mods (w : World) : Prop := 1 < w.heap.size ∧ ∀ j v, modCells[j]? = some v → w.cell? ⟨1, j, none⟩ = some v
theorem Mods.below {B : Nat} {w w' : World} (h : Mods w) (hB : 1 < B) (hb : Below B w w') : Mods w' :=
  ⟨Nat.lt_of_lt_of_le h.1 hb.size, fun j v hj => (hb.cell (p := ⟨1, j, none⟩) hB).trans (h.2 j v hj)⟩
theorem Mods.next {w w' : World} (h : Mods w) (hb : Below w.heap.size w w') : Mods w' := h.below h.1 hb
theorem mod_cells : ∀ k, k < 17 → modCells[k * 4]? = some (.bool (decP k)) ∧ modCells[k * 4 + 1]? = some (.int .i64 (numP k)) ∧ modCells[k * 4 + 2]? = some (.int .i64 (frmP k)) ∧ modCells[k * 4 + 3]? = some (.bool (mbegP k))
  | 0, _ => ⟨rfl, rfl, rfl, rfl⟩ | 1, _ => ⟨rfl, rfl, rfl, rfl⟩ | 2, _ => ⟨rfl, rfl, rfl, rfl⟩ | 3, _ => ⟨rfl, rfl, rfl, rfl⟩ | 4, _ => ⟨rfl, rfl, rfl, rfl⟩ | 5, _ => ⟨rfl, rfl, rfl, rfl⟩
  | 6, _ => ⟨rfl, rfl, rfl, rfl⟩ | 7, _ => ⟨rfl, rfl, rfl, rfl⟩ | 8, _ => ⟨rfl, rfl, rfl, rfl⟩ | 9, _ => ⟨rfl, rfl, rfl, rfl⟩ | 10, _ => ⟨rfl, rfl, rfl, rfl⟩ | 11, _ => ⟨rfl, rfl, rfl, rfl⟩
  | 12, _ => ⟨rfl, rfl, rfl, rfl⟩ | 13, _ => ⟨rfl, rfl, rfl, rfl⟩ | 14, _ => ⟨rfl, rfl, rfl, rfl⟩ | 15, _ => ⟨rfl, rfl, rfl, rfl⟩ | 16, _ => ⟨rfl, rfl, rfl, rfl⟩
  | n + 17, h => absurd h (by omega)
theorem Mods.at_ {w : World} (h : Mods w) (k : Nat) (hk : k < 17) : w.cell? ⟨1, k * 4, none⟩ = some (.bool (decP k)) ∧ w.cell? ⟨1, k * 4 + 1, none⟩ = some (.int .i64 (numP k)) ∧ w.cell? ⟨1, k * 4 + 2, none⟩ = some (.int .i64 (frmP k)) ∧ w.cell? ⟨1, k * 4 + 3, none⟩ = some (.bool (mbegP k)) := by
  obtain ⟨a, b, c, d⟩ := mod_cells k hk
  exact ⟨h.2 _ _ a, h.2 _ _ b, h.2 _ _ c, h.2 _ _ d⟩
theorem info_mod : (Tryz.prog.info? 170).map (·.size) = some modCells.length := by kernel_rfl
theorem load_mod {w : World} (h : Mods w) : (loadVar 170 ⟨1, 0, none⟩).run Tryz.prog w = .ok modV w := by
  have hl : (loadCells ⟨1, 0, none⟩ modCells.length).run Tryz.prog w = .ok modCells.toArray w :=
    run_loadCells_list w ⟨1, 0, none⟩ modCells (fun j v hv => by
      have hadd : (⟨1, 0, none⟩ : Addr).add j = ⟨1, j, none⟩ := by unfold Addr.add; split <;> simp_all
      rw [hadd]; exact h.2 j v hv)
  obtain ⟨i, hq, hs⟩ := Option.map_eq_some_iff.1 info_mod
  have hagg : (isAgg 170).run Tryz.prog w = .ok true w := by kernel_rfl
  simp only [loadVar, Sem.run_bind, hagg, Result.andThen_ok, sizeOf, typeInfo]
  simp [hq, hs, hl, modV]
theorem wpList_load_mod {ops : Array Oper} {rest : List Oper} {o : Oper} {a : Act} {w : World} {Q : Exit → Act → World → Prop} (h : Mods w) (hgd : o.guard = none) (x : Operand) (ho : o.op = .load 170 x)
    (hx : a.eval x = .pointer (some ⟨1, 0, none⟩)) (hk : wpList Tryz.prog ops Q rest (a.put o.dst modV) w) : wpList Tryz.prog ops Q (o :: rest) a w :=
  wpList_plain hgd fun _ hK => by
    unfold Oper.wp execOp
    simp only [ho, hx, Instr.loadAt, Instr.sureAddr, Sem.run_bind, Sem.run_pure, Result.andThen_ok, load_mod h]
    exact hK _ _ hk
theorem idx_mod : ∀ (k : Nat), k < 17 → ∀ (w : World), (Instr.index 170 modV (.int .i64 k)).run Tryz.prog w = .ok (factV k) w
  | 0, _, _ => by kernel_rfl
  | 1, _, _ => by kernel_rfl
  | 2, _, _ => by kernel_rfl
  | 3, _, _ => by kernel_rfl
  | 4, _, _ => by kernel_rfl
  | 5, _, _ => by kernel_rfl
  | 6, _, _ => by kernel_rfl
  | 7, _, _ => by kernel_rfl
  | 8, _, _ => by kernel_rfl
  | 9, _, _ => by kernel_rfl
  | 10, _, _ => by kernel_rfl
  | 11, _, _ => by kernel_rfl
  | 12, _, _ => by kernel_rfl
  | 13, _, _ => by kernel_rfl
  | 14, _, _ => by kernel_rfl
  | 15, _, _ => by kernel_rfl
  | 16, _, _ => by kernel_rfl
  | n + 17, h, _ => absurd h (by omega)

/-- Is a number a mode's? -/
def isM (z : Int) : Bool := decide (0 ≤ z) && decide (z ≤ 16)
theorem isM_iff (z : Int) : isM z = true ↔ 0 ≤ z ∧ z ≤ 16 := by simp [isM]
theorem isM_nat (z : Int) (h : isM z = true) : ∃ k : Nat, z = k ∧ k < 17 := by
  obtain ⟨h1, h2⟩ := (isM_iff z).1 h
  exact ⟨z.toNat, by omega, by omega⟩
def bitN (z : Int) : Nat := if isM z then 2 ^ z.toNat else 0
/-- Is the mode of a number set? -/
def hasN (m : Nat) (z : Int) : Bool := isM z && m.testBit z.toNat
def orN (m y : Nat) : Nat := (BitVec.ofNat 32 m ||| BitVec.ofNat 32 y).toNat
def clrN (m y : Nat) : Nat := (BitVec.ofNat 32 m &&& ~~~BitVec.ofNat 32 y).toNat
def andN (m y : Nat) : Nat := (BitVec.ofNat 32 m &&& BitVec.ofNat 32 y).toNat
def withN (m : Nat) (z : Int) (on : Bool) : Nat := if on then orN m (bitN z) else clrN m (bitN z)
theorem wrap_bv32 (v : BitVec 32) : IntKind.u32.wrap (v.toNat : Int) = (v.toNat : Int) := by
  have h := v.isLt
  have : (v.toNat : Int) % 4294967296 = v.toNat := Int.emod_eq_of_lt (by omega) (by omega)
  simpa [IntKind.wrap, IntKind.signed, IntKind.bits] using this
theorem ofInt_nat32 (x : Nat) : BitVec.ofInt 32 (x : Int) = BitVec.ofNat 32 x := by
  apply BitVec.eq_of_toNat_eq
  simp
theorem bits_orN (x y : Nat) : bits .or .u32 (x : Int) (y : Int) = (orN x y : Int) := by
  show IntKind.u32.wrap ((BitVec.ofInt 32 (x : Int) ||| BitVec.ofInt 32 (y : Int)).toNat : Int) = _
  rw [wrap_bv32, ofInt_nat32, ofInt_nat32]; rfl
theorem bits_clrN (x y : Nat) : bits .andNot .u32 (x : Int) (y : Int) = (clrN x y : Int) := by
  show IntKind.u32.wrap ((BitVec.ofInt 32 (x : Int) &&& ~~~BitVec.ofInt 32 (y : Int)).toNat : Int) = _
  rw [wrap_bv32, ofInt_nat32, ofInt_nat32]; rfl
theorem bits_andN (x y : Nat) : bits .and .u32 (x : Int) (y : Int) = (andN x y : Int) := by
  show IntKind.u32.wrap ((BitVec.ofInt 32 (x : Int) &&& BitVec.ofInt 32 (y : Int)).toNat : Int) = _
  rw [wrap_bv32, ofInt_nat32, ofInt_nat32]; rfl
theorem orN_lt (x k : Nat) : orN x k < 2 ^ 32 := BitVec.isLt _
theorem clrN_lt (x k : Nat) : clrN x k < 2 ^ 32 := BitVec.isLt _
theorem withN_lt (m : Nat) (z : Int) (on : Bool) : withN m z on < 2 ^ 32 := by
  unfold withN
  split
  · exact orN_lt _ _
  · exact clrN_lt _ _
theorem bitN_bit (z : Int) (j : Nat) (_hj : j < 17) : (bitN z).testBit j = (isM z && decide (z = j)) := by
  unfold bitN
  rcases h : isM z with _ | _
  · simp
  · obtain ⟨k, rfl, hk⟩ := isM_nat z h
    simp [Nat.testBit_two_pow]
    omega
theorem orN_bit (x : Nat) (z : Int) (j : Nat) (hj : j < 17) : (orN x (bitN z)).testBit j = (x.testBit j || (isM z && decide (z = j))) := by
  unfold orN
  rw [BitVec.testBit_toNat, BitVec.getLsbD_or, BitVec.getLsbD_ofNat, BitVec.getLsbD_ofNat, bitN_bit z j hj]
  simp [show j < 32 by omega]
theorem clrN_bit (x : Nat) (z : Int) (j : Nat) (hj : j < 17) : (clrN x (bitN z)).testBit j = (x.testBit j && !(isM z && decide (z = j))) := by
  unfold clrN
  rw [BitVec.testBit_toNat, BitVec.getLsbD_and, BitVec.getLsbD_not, BitVec.getLsbD_ofNat, BitVec.getLsbD_ofNat, bitN_bit z j hj]
  simp [show j < 32 by omega]
theorem bitN_lt (z : Int) : bitN z < 2 ^ 32 := by
  unfold bitN
  split
  · next h =>
    obtain ⟨k, rfl, hk⟩ := isM_nat z h
    exact Nat.pow_lt_pow_right (by omega) (by simp; omega)
  · decide
theorem andN_nat (x : Nat) (hx : x < 2 ^ 32) (z : Int) : andN x (bitN z) = x &&& bitN z := by
  unfold andN
  rw [BitVec.toNat_and, BitVec.toNat_ofNat, BitVec.toNat_ofNat, Nat.mod_eq_of_lt hx, Nat.mod_eq_of_lt (bitN_lt z)]
theorem orN_nat (x : Nat) (hx : x < 2 ^ 32) (z : Int) : orN x (bitN z) = x ||| bitN z := by
  unfold orN
  rw [BitVec.toNat_or, BitVec.toNat_ofNat, BitVec.toNat_ofNat, Nat.mod_eq_of_lt hx, Nat.mod_eq_of_lt (bitN_lt z)]
theorem and_has (x : Nat) (hx : x < 2 ^ 32) (z : Int) : ((andN x (bitN z) : Int) != 0) = hasN x z := by
  rw [andN_nat x hx]
  unfold hasN bitN
  rcases h : isM z with _ | _
  · simp
  · obtain ⟨k, rfl, hk⟩ := isM_nat z h
    simp only [if_true, Bool.true_and, Int.toNat_natCast]
    rcases hb : x.testBit k with _ | _
    · have e : x &&& 2 ^ k = 0 := by
        apply Nat.eq_of_testBit_eq
        intro j
        rw [Nat.testBit_and, Nat.testBit_two_pow, Nat.zero_testBit]
        by_cases ej : k = j
        · subst ej; simp [hb]
        · simp [ej]
      rw [e]; rfl
    · have e : (x &&& 2 ^ k).testBit k = true := by
        rw [Nat.testBit_and, Nat.testBit_two_pow_self, hb]; rfl
      have e2 : x &&& 2 ^ k ≠ 0 := fun h0 => by rw [h0, Nat.zero_testBit] at e; cases e
      have e3 : ((x &&& 2 ^ k : Nat) : Int) ≠ 0 := by omega
      exact bne_iff_ne.2 e3
theorem hasN_with (m : Nat) (z y : Int) (on : Bool) : hasN (withN m z on) y = if z = y ∧ isM y = true then on else hasN m y := by
  unfold hasN
  rcases h : isM y with _ | _
  · simp
  · obtain ⟨j, rfl, hj⟩ := isM_nat y h
    simp only [Bool.true_and, Int.toNat_natCast, and_true]
    unfold withN
    rcases on with _ | _
    · simp only [Bool.false_eq_true, if_false]
      rw [clrN_bit m z j hj]
      by_cases e : z = j
      · subst e; rw [h]; simp
      · simp [e]
    · simp only [if_true]
      rw [orN_bit m z j hj]
      by_cases e : z = j
      · subst e; rw [h]; simp
      · simp [e]
/-- Set, or not, by adding and taking away. -/
def withR (m : Nat) (z : Int) (on : Bool) : Nat := if isM z = false ∨ hasN m z = on then m else if on then m + bitN z else m - bitN z
theorem or_zeroN (m : Nat) (hm : m < 2 ^ 32) (z : Int) (h : isM z = false) : withN m z true = m ∧ withN m z false = m := by
  unfold withN
  have e : bitN z = 0 := by unfold bitN; rw [h]; rfl
  simp only [if_true, Bool.false_eq_true, if_false]
  refine ⟨?_, ?_⟩
  · rw [orN_nat m hm, e, Nat.or_zero]
  · rw [e]
    unfold clrN
    rw [show ~~~BitVec.ofNat 32 0 = BitVec.allOnes 32 from by decide, BitVec.and_allOnes, BitVec.toNat_ofNat, Nat.mod_eq_of_lt hm]
theorem bv_eq {m : Nat} (hm : m < 2 ^ 32) : (BitVec.ofNat 32 m).toNat = m := by rw [BitVec.toNat_ofNat, Nat.mod_eq_of_lt hm]
theorem withN_R (m : Nat) (hm : m < 2 ^ 32) (z : Int) (on : Bool) : withN m z on = withR m z on := by
  unfold withR
  rcases h : isM z with _ | _
  · rw [if_pos (.inl rfl)]
    rcases on with _ | _
    · exact (or_zeroN m hm z h).2
    · exact (or_zeroN m hm z h).1
  · have hb : ∀ j, j < 32 → (BitVec.ofNat 32 (bitN z)).getLsbD j = decide (z.toNat = j) := by
      intro j hj
      obtain ⟨k, rfl, hk⟩ := isM_nat z h
      rw [BitVec.getLsbD_ofNat]
      unfold bitN
      rw [h]
      simp [Nat.testBit_two_pow, hj]
    have hh : hasN m z = m.testBit z.toNat := by unfold hasN; rw [h, Bool.true_and]
    have hz : z.toNat < 32 := by obtain ⟨k, rfl, hk⟩ := isM_nat z h; simp; omega
    have hx : ∀ j, j < 32 → (BitVec.ofNat 32 m).getLsbD j = m.testBit j := by
      intro j hj
      rw [BitVec.getLsbD_ofNat]
      simp [hj]
    rw [hh]
    unfold withN
    rcases on with _ | _
    · simp only [Bool.false_eq_true, if_false]
      rcases hm1 : m.testBit z.toNat with _ | _
      · rw [if_pos (.inr rfl)]
        unfold clrN
        rw [show BitVec.ofNat 32 m &&& ~~~BitVec.ofNat 32 (bitN z) = BitVec.ofNat 32 m from by
          apply BitVec.eq_of_getLsbD_eq
          intro j hj
          rw [BitVec.getLsbD_and, BitVec.getLsbD_not, hb j hj, hx j hj]
          by_cases e : z.toNat = j
          · subst e; simp [hm1]
          · simp [e, hj]]
        exact bv_eq hm
      · rw [if_neg (by simp)]
        unfold clrN
        have hz0 : (BitVec.ofNat 32 m &&& ~~~BitVec.ofNat 32 (bitN z)) &&& BitVec.ofNat 32 (bitN z) = 0#32 := by
          apply BitVec.eq_of_getLsbD_eq
          intro j hj
          rw [BitVec.getLsbD_and, BitVec.getLsbD_and, BitVec.getLsbD_not, hb j hj, hx j hj]
          by_cases e : z.toNat = j
          · subst e; simp
          · simp [e]
        have hs := BitVec.toNat_add_of_and_eq_zero hz0
        rw [BitVec.add_eq_or_of_and_eq_zero _ _ hz0] at hs
        have ho : (BitVec.ofNat 32 m &&& ~~~BitVec.ofNat 32 (bitN z)) ||| BitVec.ofNat 32 (bitN z) = BitVec.ofNat 32 m := by
          apply BitVec.eq_of_getLsbD_eq
          intro j hj
          rw [BitVec.getLsbD_or, BitVec.getLsbD_and, BitVec.getLsbD_not, hb j hj, hx j hj]
          by_cases e : z.toNat = j
          · subst e; simp [hm1]
          · simp [e, hj]
        rw [ho, bv_eq hm, bv_eq (bitN_lt z)] at hs
        omega
    · simp only [if_true]
      rcases hm1 : m.testBit z.toNat with _ | _
      · rw [if_neg (by simp)]
        unfold orN
        have hz0 : BitVec.ofNat 32 m &&& BitVec.ofNat 32 (bitN z) = 0#32 := by
          apply BitVec.eq_of_getLsbD_eq
          intro j hj
          rw [BitVec.getLsbD_and, hb j hj, hx j hj]
          by_cases e : z.toNat = j
          · subst e; simp [hm1]
          · simp [e]
        have hs := BitVec.toNat_add_of_and_eq_zero hz0
        rw [BitVec.add_eq_or_of_and_eq_zero _ _ hz0] at hs
        rw [hs, bv_eq hm, bv_eq (bitN_lt z)]
      · rw [if_pos (.inr rfl)]
        unfold orN
        rw [show BitVec.ofNat 32 m ||| BitVec.ofNat 32 (bitN z) = BitVec.ofNat 32 m from by
          apply BitVec.eq_of_getLsbD_eq
          intro j hj
          rw [BitVec.getLsbD_or, hb j hj, hx j hj]
          by_cases e : z.toNat = j
          · subst e; simp [hm1]
          · simp [e]]
        exact bv_eq hm
/-- Without what is no mode's. -/
theorem clear_bits (m : Nat) (hm : m < 2 ^ 32) : bits .and .u32 (m : Int) 131071 = ((m % 131072 : Nat) : Int) := by
  show IntKind.u32.wrap ((BitVec.ofInt 32 (m : Int) &&& BitVec.ofInt 32 ((131071 : Nat) : Int)).toNat : Int) = _
  rw [wrap_bv32, ofInt_nat32, ofInt_nat32, BitVec.toNat_and, bv_eq hm, bv_eq (by decide)]
  rw [show (131071 : Nat) = 2 ^ 17 - 1 from rfl, Nat.and_two_pow_sub_one_eq_mod]
theorem clear_iff (m n : Nat) : m % 131072 = n % 131072 ↔ ∀ j : Nat, j < 17 → hasN m j = hasN n j := by
  have hi : ∀ (x j : Nat), j < 17 → hasN x j = (x % 131072).testBit j := by
    intro x j hj
    unfold hasN
    rw [(isM_iff _).2 ⟨by omega, by omega⟩, Bool.true_and, Int.toNat_natCast, show (131072 : Nat) = 2 ^ 17 from rfl, Nat.testBit_mod_two_pow]
    simp [hj]
  constructor
  · intro h j hj
    rw [hi m j hj, hi n j hj, h]
  · intro h
    apply Nat.eq_of_testBit_eq
    intro j
    by_cases hj : j < 17
    · rw [← hi m j hj, ← hi n j hj]; exact h j hj
    · rw [show (131072 : Nat) = 2 ^ 17 from rfl, Nat.testBit_mod_two_pow, Nat.testBit_mod_two_pow]
      simp [hj]
/-- What is set at the beginning, of the first modes alone. -/
def begT : Nat → Nat
  | 0 => 0
  | k + 1 => if mbegP k then begT k + 2 ^ k else begT k
theorem begT_ok : ∀ k, k < 17 → withN (begT k) k (mbegP k) = begT (k + 1) ∧ begT k < 2 ^ 32 := by decide +kernel
theorem begT_17 : begT 17 = 2948 := by decide +kernel
/-- Does a mode fit? -/
def hitP (dec : Bool) (n level : Int) (k : Nat) : Bool := (decP k == dec) && (numP k == n) && decide (frmP k ≤ level)
/-- The first one that fits; 17: none. -/
def fin (dec : Bool) (n level : Int) : Nat := ((List.range' 0 17).find? (hitP dec n level)).getD 17
theorem fin_go (f : Nat → Bool) : ∀ r a, ((∀ j, a ≤ j → j < a + r → f j = false) → (List.range' a r).find? f = none) ∧ (∀ n, a ≤ n → n < a + r → f n = true → (∀ j, a ≤ j → j < n → f j = false) → (List.range' a r).find? f = some n) := by
  intro r
  induction r with
  | zero => intro a; exact ⟨fun _ => rfl, fun n h1 h2 => by omega⟩
  | succ r ih =>
    intro a
    rw [List.range'_succ]
    refine ⟨fun h => ?_, fun n h1 h2 h3 h4 => ?_⟩
    · rw [List.find?_cons_of_neg (by rw [h a (by omega) (by omega)]; simp)]
      exact (ih (a + 1)).1 (fun j h1 h2 => h j (by omega) (by omega))
    · by_cases e : n = a
      · subst e; rw [List.find?_cons_of_pos h3]
      · rw [List.find?_cons_of_neg (by rw [h4 a (by omega) (by omega)]; simp)]
        exact (ih (a + 1)).2 n (by omega) (by omega) h3 (fun j h1 h2 => h4 j (by omega) h2)
theorem fin_none (dec : Bool) (n level : Int) (h : ∀ j, j < 17 → hitP dec n level j = false) : fin dec n level = 17 := by
  unfold fin; rw [(fin_go _ 17 0).1 (fun j _ h2 => h j (by omega))]; rfl
theorem fin_some (dec : Bool) (n level : Int) (k : Nat) (h2 : k < 17) (h3 : hitP dec n level k = true) (h4 : ∀ j, j < k → hitP dec n level j = false) : fin dec n level = k := by
  unfold fin; rw [(fin_go _ 17 0).2 k (by omega) (by omega) h3 (fun j _ h => h4 j h)]; rfl
theorem fin_fits (dec : Bool) (n level : Int) (h : fin dec n level < 17) : hitP dec n level (fin dec n level) = true := by
  unfold fin at *
  rcases hf : (List.range' 0 17).find? (hitP dec n level) with _ | k
  · rw [hf] at h; simp at h
  · exact List.find?_some hf
theorem fin_le (dec : Bool) (n level : Int) : fin dec n level ≤ 17 := by
  unfold fin
  rcases hf : (List.range' 0 17).find? (hitP dec n level) with _ | k
  · simp
  · have := List.mem_of_find?_eq_some hf
    rw [List.mem_range'_1] at this
    simp; omega
/-- A number that is known, and of no mode. -/
def nevP (n : Int) : Bool := n == 1 || n == 5 || n == 7 || n == 10 || n == 11 || (decide (13 ≤ n) && decide (n ≤ 19))
/-- What is told of a number. -/
def askP (m : Nat) (dec : Bool) (n level : Int) : Int := if fin dec n level < 17 then (if hasN m (fin dec n level) then 1 else 2) else if !dec && nevP n then 4 else 0
end Go.Proofs.YtfnamfkjbkhgeaaGreatDoor

namespace Go.Proofs.YtfnamfkjbkhgeaaGreatDoor

open Go Go.RowKit

set_option maxHeartbeats 1000000 in
theorem isMode_any (z : Int) (w : World) :
    Calls Tryz.prog 160 #[.int .i64 z] w fun e w' => e = .returned (.bool (isM z)) ∧ w = w' := by
  by_cases h0 : 0 ≤ z
  · have hd : decide (0 ≤ z) = true := by simpa using h0
    unfold isM
    rw [hd, Bool.true_and]
    go_enter Tryz.func160, Tryz.ntmps160
    go_wp2_with fail
    go_ret
    exact ⟨rfl, rfl⟩
  · have hd : decide (0 ≤ z) = false := by simpa using h0
    unfold isM
    rw [hd, Bool.false_and]
    go_enter Tryz.func160, Tryz.ntmps160
    go_wp2_with fail
    go_ret
    exact ⟨rfl, rfl⟩
theorem pow_wrap32 (k : Nat) (hk : k < 32) : IntKind.u32.wrap (2 ^ k : Int) = ((2 ^ k : Nat) : Int) := by
  have h := wrap_bv32 (BitVec.ofNat 32 (2 ^ k))
  rw [bv_eq (Nat.pow_lt_pow_right (by omega) hk)] at h
  rw [← h]
  push_cast
  rfl
set_option maxHeartbeats 1000000 in
theorem mbit_any (z : Int) (w : World) :
    Calls Tryz.prog 128 #[.int .i64 z] w fun e w' => e = .returned (.int .u32 (bitN z : Nat)) ∧ w = w' := by
  have HI := Lib.hid (fun W => isMode_any z W)
  unfold bitN
  rcases h : isM z with _ | _
  · rw [h] at HI
    clear h
    go_enter Tryz.func128, Tryz.ntmps128
    go_wp2_with fail
    refine (HI.out _).mono ?_
    rintro e w1 ⟨rfl, rfl⟩
    go_wp2_with fail
    go_ret
    exact ⟨rfl, rfl⟩
  · rw [h] at HI
    obtain ⟨k, rfl, hk⟩ := isM_nat z h
    have HP := Lib.hid (pow_wrap32 k (by omega))
    clear h
    go_enter Tryz.func128, Tryz.ntmps128
    go_wp2_with fail
    refine (HI.out _).mono ?_
    rintro e w1 ⟨rfl, rfl⟩
    go_wp2_with fail
    go_ret
    exact ⟨ret_int HP.out, rfl⟩
set_option maxHeartbeats 1000000 in
theorem modWith_any (m : Nat) (z : Int) (on : Bool) (w : World) :
    Calls Tryz.prog 99 #[.int .u32 m, .int .i64 z, .bool on] w fun e w' => e = .returned (.int .u32 (withN m z on : Nat)) ∧ w = w' := by
  have HB := Lib.hid (fun W => mbit_any z W)
  have HO := bits_orN m (bitN z); have HC := bits_clrN m (bitN z)
  unfold withN
  generalize orN m (bitN z) = ow at *
  generalize clrN m (bitN z) = cw at *
  generalize bitN z = b at *
  rcases on with _ | _
  · clear HO
    go_enter Tryz.func99, Tryz.ntmps99
    go_wp2_with fail
    refine (HB.out _).mono ?_
    rintro e w1 ⟨rfl, rfl⟩
    go_wp2_with fail
    go_ret
    exact ⟨rfl, rfl⟩
  · clear HC
    go_enter Tryz.func99, Tryz.ntmps99
    go_wp2_with fail
    refine (HB.out _).mono ?_
    rintro e w1 ⟨rfl, rfl⟩
    go_wp2_with fail
    go_ret
    exact ⟨rfl, rfl⟩

set_option maxHeartbeats 1000000 in
theorem modClear_any (m : Nat) (hm : m < 2 ^ 32) (w : World) :
    Calls Tryz.prog 67 #[.int .u32 m] w fun e w' => e = .returned (.int .u32 ((m % 131072 : Nat) : Int)) ∧ w = w' := by
  have HC := clear_bits m hm
  generalize m % 131072 = c at *
  clear hm
  go_enter Tryz.func67, Tryz.ntmps67
  go_wp2_with fail
  go_ret
  exact ⟨rfl, rfl⟩
/-- What Find answers. -/
def finV (x : Nat) : Value := .tuple #[.int .i64 ((if x < 17 then x else 0 : Nat) : Int), .bool (decide (x < 17))]


set_option maxRecDepth 100000 in
set_option maxHeartbeats 2000000 in
theorem mbegin_any (w : World) (ht : Mods w) :
    Calls Tryz.prog 61 #[] w fun e w' => e = .returned (.int .u32 2948) ∧ Below w.heap.size w w' := by
  have HX : Hid (∀ (k : Nat), k < 17 → ∀ W, (Instr.index 170 modV (.int .i64 k)).run Tryz.prog W = .ok (factV k) W) := Lib.hid idx_mod
  have HL : Hid (∀ {ops : Array Oper} {rest : List Oper} {o : Oper} {a : Act} {Q : Exit → Act → World → Prop}, o.guard = none → ∀ (x : Operand), o.op = .load 170 x → a.eval x = .pointer (some ⟨1, 0, none⟩) → wpList Tryz.prog ops Q rest (a.put o.dst modV) w → wpList Tryz.prog ops Q (o :: rest) a w) := Lib.hid (fun h x ho hx hk => wpList_load_mod ht h x ho hx hk)
  have HW : Hid (∀ (m : Nat) (z : Int) (on : Bool) W, Calls Tryz.prog 99 #[.int .u32 m, .int .i64 z, .bool on] W fun e w' => e = .returned (.int .u32 (withN m z on : Nat)) ∧ W = w') := Lib.hid modWith_any
  have HG := Lib.hid begT_ok; have HE := Lib.hid begT_17
  generalize modV = tv at *
  clear ht
  go_enter Tryz.func61, Tryz.ntmps61
  go_wp2_with (refine HL.out rfl _ rfl rfl ?_)
  go_loopw [1, 5] (fun m i wr => ∃ k : Nat, k ≤ 17 ∧ m = .int .u32 (begT k : Nat) ∧ i = .int .i64 k ∧ Below w.heap.size w wr) (fun _ i _ => 17 - (intOf i).toNat)
  case atStart => exact ⟨0, by omega, rfl, rfl, Below.refl _ _⟩
  case round =>
    obtain ⟨k, hk, rfl, rfl, hb⟩ := hrel
    have HB := Lib.hid hb
    clear hb
    by_cases hlt : k < 17
    · have hx := HX.out k hlt
      unfold factV at hx
      have hw : IntKind.i64.wrap ((k : Int) + 1) = (k : Int) + 1 := IntWalk.i64_in _ (by omega)
      have hd : decide ((k : Int) < 17) = true := by simp; omega
      have HB2 := Lib.hid (HB.out.alloc HB.out.size (.cells #[.bool (decP k), .int .i64 (numP k), .int .i64 (frmP k), .bool (mbegP k)] 169))
      have HWk := Lib.hid (HW.out (begT k) k (mbegP k))
      rw [(HG.out k hlt).1] at HWk
      generalize hb2 : begT (k + 1) = b2 at *
      have HB3 := Lib.hid hb2
      clear hb2
      generalize decP k = d at *
      generalize numP k = nk at *
      generalize frmP k = fk at *
      generalize mbegP k = bk at *
      go_wp2_with fail
      refine (HWk.out _).mono ?_
      rintro e w1 ⟨rfl, rfl⟩
      go_wp2_with fail
      go_roundw
      case rel => exact ⟨k + 1, by omega, by rw [HB3.out], by first | rfl | go_num, HB2.out⟩
      case measure => simp [intOf]; omega
    · obtain rfl : k = 17 := by omega
      have he := HE.out
      rw [he]
      go_wp2_with fail
      go_ret
      exact ⟨rfl, HB.out⟩


end Go.Proofs.YtfnamfkjbkhgeaaGreatDoor

namespace Go.Proofs.YtfnamfkjbkhgeaaGreatDoor

open Go Go.RowKit

/-- A row of the table. -/
def rowV (z : Int) : Value := if isM z then .tuple #[.bool (decP z.toNat), .int .i64 (numP z.toNat), .int .i64 (frmP z.toNat), .bool (mbegP z.toNat)] else .tuple #[.bool false, .int .i64 0, .int .i64 0, .bool false]


theorem bitN_nat (k : Nat) (hk : k < 17) : bitN (k : Int) = 2 ^ k := by
  unfold bitN
  rw [(isM_iff _).2 ⟨by omega, by omega⟩]
  rfl


theorem begT_step : ∀ k, k < 17 → begT k + (if mbegP k then 2 ^ k else 0) = begT (k + 1) ∧ begT (k + 1) < 2 ^ 18 := by decide +kernel

/-- What the reference finds. -/
def rfinN (x : Nat) : Int := if x < 17 then x else -1

theorem nev_eq (n : Int) : nevP n = (n == 1 || n == 5 || n == 7 || n == 10 || n == 11 || (decide (13 ≤ n) && decide (n ≤ 19))) := rfl

end Go.Proofs.YtfnamfkjbkhgeaaGreatDoor

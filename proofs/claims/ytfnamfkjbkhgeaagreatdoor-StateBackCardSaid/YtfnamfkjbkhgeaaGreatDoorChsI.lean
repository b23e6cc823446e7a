/-
  The reference's glyphs of national sets: each code of each set.
  The reference's national sets, code by code.
  The reference's national sets, code by code.
  The reference's glyphs of the other sets: two tables and a list of codes; a set's width, its id, its name.
  The reference's two tables in memory: an array of constants that is built, made, stored, and looked into.
  The reference's supplemental set.
  The walk of the reference's glyph of a code: the same as the program's.
-/
import Derived.Test.YtfnamfkjbkhgeaaGreatDoorChsD
import Derived.Laws.Tables
import Derived.Deep.WholeRow
import Derived.Deep.CutBlock
import Derived.Deep.DeepCutAuto
namespace Go.Proofs.YtfnamfkjbkhgeaaGreatDoor

open Go Go.RowKit

def cNatL : Nat → List (Nat × Int)
  | 1 => []
  | 6 => [(35, 163)]
  | 7 => [(35, 163), (64, 190), (91, 307), (92, 189), (93, 124), (123, 168), (124, 402), (125, 188), (126, 180)]
  | 8 => [(91, 196), (92, 214), (93, 197), (94, 220), (96, 233), (123, 228), (124, 246), (125, 229), (126, 252)]
  | 9 => [(35, 163), (64, 224), (91, 176), (92, 231), (93, 167), (123, 233), (124, 249), (125, 232), (126, 168)]
  | 10 => [(64, 224), (91, 226), (92, 231), (93, 234), (94, 238), (96, 244), (123, 233), (124, 249), (125, 232), (126, 251)]
  | 11 => [(64, 167), (91, 196), (92, 214), (93, 220), (123, 228), (124, 246), (125, 252), (126, 223)]
  | 12 => [(35, 163), (64, 167), (91, 176), (92, 231), (93, 233), (96, 249), (123, 224), (124, 242), (125, 232), (126, 236)]
  | 13 => [(64, 196), (91, 198), (92, 216), (93, 197), (94, 220), (96, 228), (123, 230), (124, 248), (125, 229), (126, 252)]
  | 14 => [(91, 195), (92, 199), (93, 213), (123, 227), (124, 231), (125, 245)]
  | 15 => [(35, 163), (64, 167), (91, 161), (92, 209), (93, 191), (123, 176), (124, 241), (125, 231)]
  | 16 => [(64, 201), (91, 196), (92, 214), (93, 197), (94, 220), (96, 233), (123, 228), (124, 246), (125, 229), (126, 252)]
  | 17 => [(35, 249), (64, 224), (91, 233), (92, 231), (93, 234), (94, 238), (95, 232), (96, 244), (123, 228), (124, 246), (125, 252), (126, 251)]
  | _ => []
def natOk (k : Nat) : Bool := ((cNatL k).all fun p => gP k p.1 == p.2) && ((List.range 127).all fun c => decide (c < 32) || ((cNatL k).any fun p => c == p.1) || (gP k c == (c : Int)))
theorem nat_ok : (List.range 18).all (fun k => decide (k = 0) || decide (2 ≤ k ∧ k ≤ 5) || natOk k) = true := by decide +kernel
theorem nat_okk (k : Nat) (h : k < 18) (h0 : k ≠ 0) (h1 : ¬ (2 ≤ k ∧ k ≤ 5)) : natOk k = true := by
  have := List.all_eq_true.1 nat_ok k (by simpa using h)
  simpa [h0, h1] using this
theorem nat_in (k : Nat) (h : k < 18) (h0 : k ≠ 0) (h1 : ¬ (2 ≤ k ∧ k ≤ 5)) (p : Nat × Int) (hp : p ∈ cNatL k) : gP k p.1 = p.2 := by
  have := nat_okk k h h0 h1
  unfold natOk at this
  rw [Bool.and_eq_true] at this
  simpa using List.all_eq_true.1 this.1 p hp
theorem nat_out (k : Nat) (h : k < 18) (h0 : k ≠ 0) (h1 : ¬ (2 ≤ k ∧ k ≤ 5)) (c : Nat) (hc : c < 127) (h32 : 32 ≤ c) (hn : ∀ p ∈ cNatL k, c ≠ p.1) : gP k c = c := by
  have := nat_okk k h h0 h1
  unfold natOk at this
  rw [Bool.and_eq_true] at this
  have h2 := List.all_eq_true.1 this.2 c (by simpa using hc)
  rw [Bool.or_eq_true, Bool.or_eq_true] at h2
  rcases h2 with (h2 | h2) | h2
  · exact absurd h32 (by simpa using h2)
  · obtain ⟨p, hp, e⟩ := List.any_eq_true.1 h2
    exact absurd (by simpa using e) (hn p hp)
  · simpa using h2
end Go.Proofs.YtfnamfkjbkhgeaaGreatDoor

namespace Go.Proofs.YtfnamfkjbkhgeaaGreatDoor

open Go Go.RowKit



























































end Go.Proofs.YtfnamfkjbkhgeaaGreatDoor

namespace Go.Proofs.YtfnamfkjbkhgeaaGreatDoor

open Go Go.RowKit





































































end Go.Proofs.YtfnamfkjbkhgeaaGreatDoor

namespace Go.Proofs.YtfnamfkjbkhgeaaGreatDoor

open Go Go.RowKit

def chk (f : Nat → Bool) : Bool := (List.range 128).all f
theorem chk_at {f : Nat → Bool} (h : chk f = true) (c : Nat) (hc : c < 128) : f c = true := List.all_eq_true.1 h c (by simpa using hc)
def spcL : List Int := [32, 9670, 9618, 9225, 9228, 9229, 9226, 176, 177, 9252, 9227, 9496, 9488, 9484, 9492, 9532, 9146, 9147, 9472, 9148, 9149, 9500, 9508, 9524, 9516, 9474, 8804, 8805, 960, 8800, 163, 183]
def tecL : List Int := [9143, 9484, 9472, 8992, 8993, 9474, 9121, 9123, 9124, 9126, 9115, 9117, 9118, 9120, 9128, 9132, 65533, 65533, 65533, 65533, 65533, 65533, 65533, 65533, 65533, 65533, 65533, 8804, 8800, 8805, 8747, 8756, 8733, 8734, 247, 916, 8711, 934, 915, 8764, 8771, 920, 215, 923, 8660, 8658, 8801, 928, 936, 65533, 931, 65533, 65533, 8730, 937, 926, 933, 8834, 8835, 8745, 8746, 8743, 8744, 172, 945, 946, 967, 948, 949, 966, 947, 951, 953, 952, 954, 955, 65533, 957, 8706, 960, 968, 961, 963, 964, 65533, 402, 969, 958, 965, 950, 8592, 8593, 8594, 8595]
def supL : List (Nat × Int) := [(36, 65533), (38, 65533), (40, 164), (44, 65533), (45, 65533), (46, 65533), (47, 65533), (52, 65533), (56, 65533), (62, 65533), (80, 65533), (87, 338), (93, 376), (94, 65533), (112, 65533), (119, 339), (125, 255), (126, 65533)]
theorem spc_ok : chk (fun c => decide (c < 32) || decide (127 ≤ c) || (if c < 95 then gP 2 c == (c : Int) else gP 2 c == spcL.getD (c - 95) 0)) = true := by decide +kernel
theorem tec_ok : chk (fun c => decide (c < 33) || decide (127 ≤ c) || gP 3 c == tecL.getD (c - 33) 0) = true := by decide +kernel
theorem sup_in : (supL.all fun p => gP 4 p.1 == p.2) = true := by decide +kernel
theorem sup_out : chk (fun c => decide (c < 33) || decide (127 ≤ c) || (supL.any fun p => c == p.1) || gP 4 c == (c : Int) + 128) = true := by decide +kernel
theorem sup_at (p : Nat × Int) (hp : p ∈ supL) : gP 4 p.1 = p.2 := by simpa using List.all_eq_true.1 sup_in p hp
theorem sup_no (c : Nat) (h1 : 33 ≤ c) (h2 : c < 127) (hn : ∀ p ∈ supL, c ≠ p.1) : gP 4 c = (c : Int) + 128 := by
  have h := chk_at sup_out c (by omega)
  simp only [Bool.or_eq_true] at h
  rcases h with ((h | h) | h) | h
  · exact absurd h1 (by simpa using h)
  · exact absurd h2 (by simpa using h)
  · obtain ⟨p, hp, e⟩ := List.any_eq_true.1 h
    exact absurd (by simpa using e) (hn p hp)
  · simpa using h
theorem sup_key (c : Nat) (h1 : 33 ≤ c) (h2 : c < 127) (v : Int) (h : (c = 36 ∧ v = 65533) ∨ (c = 38 ∧ v = 65533) ∨ (c = 40 ∧ v = 164) ∨ (c = 44 ∧ v = 65533) ∨ (c = 45 ∧ v = 65533) ∨ (c = 46 ∧ v = 65533) ∨ (c = 47 ∧ v = 65533) ∨ (c = 52 ∧ v = 65533) ∨ (c = 56 ∧ v = 65533) ∨ (c = 62 ∧ v = 65533) ∨ (c = 80 ∧ v = 65533) ∨ (c = 87 ∧ v = 338) ∨ (c = 93 ∧ v = 376) ∨ (c = 94 ∧ v = 65533) ∨ (c = 112 ∧ v = 65533) ∨ (c = 119 ∧ v = 339) ∨ (c = 125 ∧ v = 255) ∨ (c = 126 ∧ v = 65533) ∨ (c ≠ 36 ∧ c ≠ 38 ∧ c ≠ 40 ∧ c ≠ 44 ∧ c ≠ 45 ∧ c ≠ 46 ∧ c ≠ 47 ∧ c ≠ 52 ∧ c ≠ 56 ∧ c ≠ 62 ∧ c ≠ 80 ∧ c ≠ 87 ∧ c ≠ 93 ∧ c ≠ 94 ∧ c ≠ 112 ∧ c ≠ 119 ∧ c ≠ 125 ∧ c ≠ 126 ∧ v = (c : Int) + 128)) : gP 4 c = v := by
  rcases h with ⟨rfl, rfl⟩ | ⟨rfl, rfl⟩ | ⟨rfl, rfl⟩ | ⟨rfl, rfl⟩ | ⟨rfl, rfl⟩ | ⟨rfl, rfl⟩ | ⟨rfl, rfl⟩ | ⟨rfl, rfl⟩ | ⟨rfl, rfl⟩ | ⟨rfl, rfl⟩ | ⟨rfl, rfl⟩ | ⟨rfl, rfl⟩ | ⟨rfl, rfl⟩ | ⟨rfl, rfl⟩ | ⟨rfl, rfl⟩ | ⟨rfl, rfl⟩ | ⟨rfl, rfl⟩ | ⟨rfl, rfl⟩ | ⟨n0, n1, n2, n3, n4, n5, n6, n7, n8, n9, n10, n11, n12, n13, n14, n15, n16, n17, rfl⟩
  · exact sup_at (36, 65533) (by decide)
  · exact sup_at (38, 65533) (by decide)
  · exact sup_at (40, 164) (by decide)
  · exact sup_at (44, 65533) (by decide)
  · exact sup_at (45, 65533) (by decide)
  · exact sup_at (46, 65533) (by decide)
  · exact sup_at (47, 65533) (by decide)
  · exact sup_at (52, 65533) (by decide)
  · exact sup_at (56, 65533) (by decide)
  · exact sup_at (62, 65533) (by decide)
  · exact sup_at (80, 65533) (by decide)
  · exact sup_at (87, 338) (by decide)
  · exact sup_at (93, 376) (by decide)
  · exact sup_at (94, 65533) (by decide)
  · exact sup_at (112, 65533) (by decide)
  · exact sup_at (119, 339) (by decide)
  · exact sup_at (125, 255) (by decide)
  · exact sup_at (126, 65533) (by decide)
  · exact sup_no c h1 h2 (by intro p hp; simp only [supL, List.mem_cons, List.not_mem_nil, or_false] at hp; rcases hp with rfl | rfl | rfl | rfl | rfl | rfl | rfl | rfl | rfl | rfl | rfl | rfl | rfl | rfl | rfl | rfl | rfl | rfl <;> assumption)
end Go.Proofs.YtfnamfkjbkhgeaaGreatDoor

namespace Go.Proofs.YtfnamfkjbkhgeaaGreatDoor

open Go Go.RowKit

section

variable {P : Program} {ops : Array Oper} {rest : List Oper} {o : Oper} {a : Act} {w : World} {Q : Exit → Act → World → Prop}

theorem wpList_build (hgd : o.guard = none) (t : TypeId) (ps : Array (Nat × Value)) (ho : o.op = .build t (ps.map fun p => (p.1, Operand.const p.2))) (cells : Array Value) (h : P.built t ps.toList = some cells)
    (hk : wpList P ops Q rest (a.put o.dst (.agg cells)) w) : wpList P ops Q (o :: rest) a w :=
  wpList_plain hgd fun _ hK => by
    have e : ((ps.map fun p => (p.1, Operand.const p.2)).map fun (x : Nat × Operand) => (x.1, a.eval x.2)) = ps := by
      rw [Array.map_map]
      have : ((fun (x : Nat × Operand) => (x.1, a.eval x.2)) ∘ fun (p : Nat × Value) => (p.1, Operand.const p.2)) = id := by funext p; rfl
      rw [this, Array.map_id]
    unfold Oper.wp execOp
    simp only [ho]
    rw [show ((ps.map fun p => (p.1, Operand.const p.2)).map fun (x : Nat × Operand) => match x with | (i, x) => (i, a.eval x)) = ps from e]
    simp only [Sem.run_bind, run_build w t ps cells h, Result.andThen_ok, Sem.run_pure]
    exact hK _ _ hk
theorem wpList_new (hgd : o.guard = none) (t : TypeId) (z : Array Value) (ho : o.op = .alloc t) (hz : ∀ w, (zeroValue t).run P w = .ok (.agg z) w)
    (hk : wpList P ops Q rest (a.put o.dst (.pointer (some ⟨w.heap.size, 0, none⟩))) (w.alloc (.cells z t))) : wpList P ops Q (o :: rest) a w :=
  wpList_plain hgd fun _ hK => by
    unfold Oper.wp execOp
    simp only [ho, Instr.alloc, Sem.run_bind, hz, Result.andThen_ok]
    refine hK _ _ ?_
    simpa [newVar, newRow, Value.cells] using hk
theorem wpList_fill (hgd : o.guard = none) (t : TypeId) (c c' : Array Value) (x y : Operand) (ho : o.op = .store t x y) (hx : a.eval x = .pointer (some ⟨w.heap.size, 0, none⟩)) (hy : a.eval y = .agg c')
    (hi : (P.info? t).map (·.size) = some c'.size) (hs : c.size = c'.size) (h1 : c'.all (·.oneCell') = true) (hk : wpList P ops Q rest (a.put o.dst undef) (w.alloc (.cells c' t))) : wpList P ops Q (o :: rest) a (w.alloc (.cells c t)) :=
  wpList_plain hgd fun _ hK => by
    unfold Oper.wp execOp
    simp only [ho, hx, hy, Sem.run_bind, run_storeAt_new w t c c' hi hs h1, Result.andThen_ok, Sem.run_pure]
    exact hK _ _ hk
end

theorem cell_new (w : World) (cs : Array Value) (t : TypeId) (j : Nat) (v : Value) (h : cs[j]? = some v) : (w.alloc (.cells cs t)).cell? ⟨w.heap.size, j, none⟩ = some v := by
  rw [(Blk.new w t _).cell j]
  exact h
def spcA : Array Value := #[.int .i64 32, .int .i64 9670, .int .i64 9618, .int .i64 9225, .int .i64 9228, .int .i64 9229, .int .i64 9226, .int .i64 176, .int .i64 177, .int .i64 9252, .int .i64 9227, .int .i64 9496, .int .i64 9488, .int .i64 9484, .int .i64 9492, .int .i64 9532, .int .i64 9146, .int .i64 9147, .int .i64 9472, .int .i64 9148, .int .i64 9149, .int .i64 9500, .int .i64 9508, .int .i64 9524, .int .i64 9516, .int .i64 9474, .int .i64 8804, .int .i64 8805, .int .i64 960, .int .i64 8800, .int .i64 163, .int .i64 183]
def spcP : Array (Nat × Value) := #[(0, .int .i64 32), (1, .int .i64 9670), (2, .int .i64 9618), (3, .int .i64 9225), (4, .int .i64 9228), (5, .int .i64 9229), (6, .int .i64 9226), (7, .int .i64 176), (8, .int .i64 177), (9, .int .i64 9252), (10, .int .i64 9227), (11, .int .i64 9496), (12, .int .i64 9488), (13, .int .i64 9484), (14, .int .i64 9492), (15, .int .i64 9532), (16, .int .i64 9146), (17, .int .i64 9147), (18, .int .i64 9472), (19, .int .i64 9148), (20, .int .i64 9149), (21, .int .i64 9500), (22, .int .i64 9508), (23, .int .i64 9524), (24, .int .i64 9516), (25, .int .i64 9474), (26, .int .i64 8804), (27, .int .i64 8805), (28, .int .i64 960), (29, .int .i64 8800), (30, .int .i64 163), (31, .int .i64 183)]
def z32 : Array Value := #[.int .i64 0, .int .i64 0, .int .i64 0, .int .i64 0, .int .i64 0, .int .i64 0, .int .i64 0, .int .i64 0, .int .i64 0, .int .i64 0, .int .i64 0, .int .i64 0, .int .i64 0, .int .i64 0, .int .i64 0, .int .i64 0, .int .i64 0, .int .i64 0, .int .i64 0, .int .i64 0, .int .i64 0, .int .i64 0, .int .i64 0, .int .i64 0, .int .i64 0, .int .i64 0, .int .i64 0, .int .i64 0, .int .i64 0, .int .i64 0, .int .i64 0, .int .i64 0]
def tecA : Array Value := #[.int .i64 9143, .int .i64 9484, .int .i64 9472, .int .i64 8992, .int .i64 8993, .int .i64 9474, .int .i64 9121, .int .i64 9123, .int .i64 9124, .int .i64 9126, .int .i64 9115, .int .i64 9117, .int .i64 9118, .int .i64 9120, .int .i64 9128, .int .i64 9132, .int .i64 65533, .int .i64 65533, .int .i64 65533, .int .i64 65533, .int .i64 65533, .int .i64 65533, .int .i64 65533, .int .i64 65533, .int .i64 65533, .int .i64 65533, .int .i64 65533, .int .i64 8804, .int .i64 8800, .int .i64 8805, .int .i64 8747, .int .i64 8756, .int .i64 8733, .int .i64 8734, .int .i64 247, .int .i64 916, .int .i64 8711, .int .i64 934, .int .i64 915, .int .i64 8764, .int .i64 8771, .int .i64 920, .int .i64 215, .int .i64 923, .int .i64 8660, .int .i64 8658, .int .i64 8801, .int .i64 928, .int .i64 936, .int .i64 65533, .int .i64 931, .int .i64 65533, .int .i64 65533, .int .i64 8730, .int .i64 937, .int .i64 926, .int .i64 933, .int .i64 8834, .int .i64 8835, .int .i64 8745, .int .i64 8746, .int .i64 8743, .int .i64 8744, .int .i64 172, .int .i64 945, .int .i64 946, .int .i64 967, .int .i64 948, .int .i64 949, .int .i64 966, .int .i64 947, .int .i64 951, .int .i64 953, .int .i64 952, .int .i64 954, .int .i64 955, .int .i64 65533, .int .i64 957, .int .i64 8706, .int .i64 960, .int .i64 968, .int .i64 961, .int .i64 963, .int .i64 964, .int .i64 65533, .int .i64 402, .int .i64 969, .int .i64 958, .int .i64 965, .int .i64 950, .int .i64 8592, .int .i64 8593, .int .i64 8594, .int .i64 8595]
def tecP : Array (Nat × Value) := #[(0, .int .i64 9143), (1, .int .i64 9484), (2, .int .i64 9472), (3, .int .i64 8992), (4, .int .i64 8993), (5, .int .i64 9474), (6, .int .i64 9121), (7, .int .i64 9123), (8, .int .i64 9124), (9, .int .i64 9126), (10, .int .i64 9115), (11, .int .i64 9117), (12, .int .i64 9118), (13, .int .i64 9120), (14, .int .i64 9128), (15, .int .i64 9132), (16, .int .i64 65533), (17, .int .i64 65533), (18, .int .i64 65533), (19, .int .i64 65533), (20, .int .i64 65533), (21, .int .i64 65533), (22, .int .i64 65533), (23, .int .i64 65533), (24, .int .i64 65533), (25, .int .i64 65533), (26, .int .i64 65533), (27, .int .i64 8804), (28, .int .i64 8800), (29, .int .i64 8805), (30, .int .i64 8747), (31, .int .i64 8756), (32, .int .i64 8733), (33, .int .i64 8734), (34, .int .i64 247), (35, .int .i64 916), (36, .int .i64 8711), (37, .int .i64 934), (38, .int .i64 915), (39, .int .i64 8764), (40, .int .i64 8771), (41, .int .i64 920), (42, .int .i64 215), (43, .int .i64 923), (44, .int .i64 8660), (45, .int .i64 8658), (46, .int .i64 8801), (47, .int .i64 928), (48, .int .i64 936), (49, .int .i64 65533), (50, .int .i64 931), (51, .int .i64 65533), (52, .int .i64 65533), (53, .int .i64 8730), (54, .int .i64 937), (55, .int .i64 926), (56, .int .i64 933), (57, .int .i64 8834), (58, .int .i64 8835), (59, .int .i64 8745), (60, .int .i64 8746), (61, .int .i64 8743), (62, .int .i64 8744), (63, .int .i64 172), (64, .int .i64 945), (65, .int .i64 946), (66, .int .i64 967), (67, .int .i64 948), (68, .int .i64 949), (69, .int .i64 966), (70, .int .i64 947), (71, .int .i64 951), (72, .int .i64 953), (73, .int .i64 952), (74, .int .i64 954), (75, .int .i64 955), (76, .int .i64 65533), (77, .int .i64 957), (78, .int .i64 8706), (79, .int .i64 960), (80, .int .i64 968), (81, .int .i64 961), (82, .int .i64 963), (83, .int .i64 964), (84, .int .i64 65533), (85, .int .i64 402), (86, .int .i64 969), (87, .int .i64 958), (88, .int .i64 965), (89, .int .i64 950), (90, .int .i64 8592), (91, .int .i64 8593), (92, .int .i64 8594), (93, .int .i64 8595)]
def z94 : Array Value := #[.int .i64 0, .int .i64 0, .int .i64 0, .int .i64 0, .int .i64 0, .int .i64 0, .int .i64 0, .int .i64 0, .int .i64 0, .int .i64 0, .int .i64 0, .int .i64 0, .int .i64 0, .int .i64 0, .int .i64 0, .int .i64 0, .int .i64 0, .int .i64 0, .int .i64 0, .int .i64 0, .int .i64 0, .int .i64 0, .int .i64 0, .int .i64 0, .int .i64 0, .int .i64 0, .int .i64 0, .int .i64 0, .int .i64 0, .int .i64 0, .int .i64 0, .int .i64 0, .int .i64 0, .int .i64 0, .int .i64 0, .int .i64 0, .int .i64 0, .int .i64 0, .int .i64 0, .int .i64 0, .int .i64 0, .int .i64 0, .int .i64 0, .int .i64 0, .int .i64 0, .int .i64 0, .int .i64 0, .int .i64 0, .int .i64 0, .int .i64 0, .int .i64 0, .int .i64 0, .int .i64 0, .int .i64 0, .int .i64 0, .int .i64 0, .int .i64 0, .int .i64 0, .int .i64 0, .int .i64 0, .int .i64 0, .int .i64 0, .int .i64 0, .int .i64 0, .int .i64 0, .int .i64 0, .int .i64 0, .int .i64 0, .int .i64 0, .int .i64 0, .int .i64 0, .int .i64 0, .int .i64 0, .int .i64 0, .int .i64 0, .int .i64 0, .int .i64 0, .int .i64 0, .int .i64 0, .int .i64 0, .int .i64 0, .int .i64 0, .int .i64 0, .int .i64 0, .int .i64 0, .int .i64 0, .int .i64 0, .int .i64 0, .int .i64 0, .int .i64 0, .int .i64 0, .int .i64 0, .int .i64 0, .int .i64 0]
theorem spc_at : ∀ j, j < 32 → spcA[j]? = some (.int .i64 (spcL.getD j 0)) := fun j h => by
  have e : spcA = (spcL.map (Value.int .i64)).toArray := rfl
  rw [e, List.getElem?_toArray, List.getElem?_map, List.getElem?_eq_getElem (show j < spcL.length from h), List.getD_eq_getElem?_getD, List.getElem?_eq_getElem (show j < spcL.length from h)]; rfl
theorem tec_at : ∀ j, j < 94 → tecA[j]? = some (.int .i64 (tecL.getD j 0)) := fun j h => by
  have e : tecA = (tecL.map (Value.int .i64)).toArray := rfl
  rw [e, List.getElem?_toArray, List.getElem?_map, List.getElem?_eq_getElem (show j < tecL.length from h), List.getD_eq_getElem?_getD, List.getElem?_eq_getElem (show j < tecL.length from h)]; rfl






end Go.Proofs.YtfnamfkjbkhgeaaGreatDoor

namespace Go.Proofs.YtfnamfkjbkhgeaaGreatDoor

open Go Go.RowKit





















end Go.Proofs.YtfnamfkjbkhgeaaGreatDoor

namespace Go.Proofs.YtfnamfkjbkhgeaaGreatDoor

open Go Go.RowKit

theorem gp_low : ∀ k, k < 18 → ∀ c, c < 32 → gP k c = 0 := by decide +kernel
theorem gp_zero : ∀ c, c < 128 → gP 0 c = 0 := by decide +kernel
theorem gp_127 : ∀ k, k < 18 → k ≠ 5 → gP k 127 = 0 := by decide +kernel
theorem gp_32 : ∀ k, k < 18 → 1 ≤ k → k ≠ 5 → gP k 32 = 32 := by decide +kernel
theorem gp_5 : ∀ c, c < 128 → 32 ≤ c → gP 5 c = (c : Int) + 128 := by decide +kernel
theorem gp_le : ∀ k, k < 18 → ∀ c, c < 128 → 0 ≤ gP k c ∧ gP k c ≤ 65535 := by decide +kernel
theorem wrap32_in (z : Int) (h0 : 0 ≤ z) (h1 : z ≤ 65535) : IntKind.i32.wrap z = z := by simp [IntKind.wrap, IntKind.signed, IntKind.bits]; omega



theorem refWide_any (x : Int) (w : World) :
    Calls Tryz.prog 76 #[.int .i64 x] w fun e w' => e = .returned (.bool (x == 5)) ∧ w = w' := by
  go_enter Tryz.func76, Tryz.ntmps76
  go_wp2_with fail
  go_ret
  exact ⟨rfl, rfl⟩

end Go.Proofs.YtfnamfkjbkhgeaaGreatDoor

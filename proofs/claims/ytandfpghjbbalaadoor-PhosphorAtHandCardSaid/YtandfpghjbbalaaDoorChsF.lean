/-
  The reference's glyphs of the other sets: two tables and a list of codes; a set's width, its id, its name.
-/
import Derived.Test.YtandfpghjbbalaaDoorChsC
namespace Go.Proofs.YtandfpghjbbalaaDoor
open Go Go.RowKit

def chk (f : Nat → Bool) : Bool := (List.range 128).all f
theorem chk_at {f : Nat → Bool} (h : chk f = true) (c : Nat) (hc : c < 128) : f c = true := List.all_eq_true.1 h c (by simpa using hc)
def spcL : List Int := [32, 9670, 9618, 9225, 9228, 9229, 9226, 176, 177, 9252, 9227, 9496, 9488, 9484, 9492, 9532, 9146, 9147, 9472, 9148, 9149, 9500, 9508, 9524, 9516, 9474, 8804, 8805, 960, 8800, 163, 183]
def tecL : List Int := [9143, 9484, 9472, 8992, 8993, 9474, 9121, 9123, 9124, 9126, 9115, 9117, 9118, 9120, 9128, 9132, 65533, 65533, 65533, 65533, 65533, 65533, 65533, 65533, 65533, 65533, 65533, 8804, 8800, 8805, 8747, 8756, 8733, 8734, 247, 916, 8711, 934, 915, 8764, 8771, 920, 215, 923, 8660, 8658, 8801, 928, 936, 65533, 931, 65533, 65533, 8730, 937, 926, 933, 8834, 8835, 8745, 8746, 8743, 8744, 172, 945, 946, 967, 948, 949, 966, 947, 951, 953, 952, 954, 955, 65533, 957, 8706, 960, 968, 961, 963, 964, 65533, 402, 969, 958, 965, 950, 8592, 8593, 8594, 8595]
def supL : List (Nat × Int) := [(36, 65533), (38, 65533), (40, 164), (44, 65533), (45, 65533), (46, 65533), (47, 65533), (52, 65533), (56, 65533), (62, 65533), (80, 65533), (87, 338), (93, 376), (94, 65533), (112, 65533), (119, 339), (125, 255), (126, 65533)]
theorem spc_ok : chk (fun c => decide (c < 32) || decide (127 ≤ c) || (if c < 95 then gP 2 c == (c : Int) else gP 2 c == spcL.getD (c - 95) 0)) = true := by decide +kernel
theorem tec_ok : chk (fun c => decide (c < 33) || decide (127 ≤ c) || gP 3 c == tecL.getD (c - 33) 0) = true := by decide +kernel
theorem sup_in : (supL.all fun p => gP 4 p.1 == p.2) = true := by decide +kernel
theorem sup_out : chk (fun c => decide (c < 33) || decide (127 ≤ c) || (supL.any fun p => c == p.1) || gP 4 c == (c : Int) + 128) = true := by decide +kernel
theorem sup_at (p : Nat × Int) (hp : p ∈ supL) : gP 4 p.1 = p.2 := by simpa using List.all_eq_true.1 sup_in p hp
theorem sup_no (c : Nat) (h1 : 33 ≤ c) (h2 : c < 127) (hn : ∀ p ∈ supL, c ≠ p.1) : gP 4 c = (c : Int) + 128 := by
  have h := chk_at sup_out c (by omega)
  simp only [Bool.or_eq_true] at h
  rcases h with ((h | h) | h) | h
  · exact absurd h1 (by simpa using h)
  · exact absurd h2 (by simpa using h)
  · obtain ⟨p, hp, e⟩ := List.any_eq_true.1 h
    exact absurd (by simpa using e) (hn p hp)
  · simpa using h
theorem sup_key (c : Nat) (h1 : 33 ≤ c) (h2 : c < 127) (v : Int) (h : (c = 36 ∧ v = 65533) ∨ (c = 38 ∧ v = 65533) ∨ (c = 40 ∧ v = 164) ∨ (c = 44 ∧ v = 65533) ∨ (c = 45 ∧ v = 65533) ∨ (c = 46 ∧ v = 65533) ∨ (c = 47 ∧ v = 65533) ∨ (c = 52 ∧ v = 65533) ∨ (c = 56 ∧ v = 65533) ∨ (c = 62 ∧ v = 65533) ∨ (c = 80 ∧ v = 65533) ∨ (c = 87 ∧ v = 338) ∨ (c = 93 ∧ v = 376) ∨ (c = 94 ∧ v = 65533) ∨ (c = 112 ∧ v = 65533) ∨ (c = 119 ∧ v = 339) ∨ (c = 125 ∧ v = 255) ∨ (c = 126 ∧ v = 65533) ∨ (c ≠ 36 ∧ c ≠ 38 ∧ c ≠ 40 ∧ c ≠ 44 ∧ c ≠ 45 ∧ c ≠ 46 ∧ c ≠ 47 ∧ c ≠ 52 ∧ c ≠ 56 ∧ c ≠ 62 ∧ c ≠ 80 ∧ c ≠ 87 ∧ c ≠ 93 ∧ c ≠ 94 ∧ c ≠ 112 ∧ c ≠ 119 ∧ c ≠ 125 ∧ c ≠ 126 ∧ v = (c : Int) + 128)) : gP 4 c = v := by
  rcases h with ⟨rfl, rfl⟩ | ⟨rfl, rfl⟩ | ⟨rfl, rfl⟩ | ⟨rfl, rfl⟩ | ⟨rfl, rfl⟩ | ⟨rfl, rfl⟩ | ⟨rfl, rfl⟩ | ⟨rfl, rfl⟩ | ⟨rfl, rfl⟩ | ⟨rfl, rfl⟩ | ⟨rfl, rfl⟩ | ⟨rfl, rfl⟩ | ⟨rfl, rfl⟩ | ⟨rfl, rfl⟩ | ⟨rfl, rfl⟩ | ⟨rfl, rfl⟩ | ⟨rfl, rfl⟩ | ⟨rfl, rfl⟩ | ⟨n0, n1, n2, n3, n4, n5, n6, n7, n8, n9, n10, n11, n12, n13, n14, n15, n16, n17, rfl⟩
  · exact sup_at (36, 65533) (by decide)
  · exact sup_at (38, 65533) (by decide)
  · exact sup_at (40, 164) (by decide)
  · exact sup_at (44, 65533) (by decide)
  · exact sup_at (45, 65533) (by decide)
  · exact sup_at (46, 65533) (by decide)
  · exact sup_at (47, 65533) (by decide)
  · exact sup_at (52, 65533) (by decide)
  · exact sup_at (56, 65533) (by decide)
  · exact sup_at (62, 65533) (by decide)
  · exact sup_at (80, 65533) (by decide)
  · exact sup_at (87, 338) (by decide)
  · exact sup_at (93, 376) (by decide)
  · exact sup_at (94, 65533) (by decide)
  · exact sup_at (112, 65533) (by decide)
  · exact sup_at (119, 339) (by decide)
  · exact sup_at (125, 255) (by decide)
  · exact sup_at (126, 65533) (by decide)
  · exact sup_no c h1 h2 (by intro p hp; simp only [supL, List.mem_cons, List.not_mem_nil, or_false] at hp; rcases hp with rfl | rfl | rfl | rfl | rfl | rfl | rfl | rfl | rfl | rfl | rfl | rfl | rfl | rfl | rfl | rfl | rfl | rfl <;> assumption)
end Go.Proofs.YtandfpghjbbalaaDoor

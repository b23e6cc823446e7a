/-
  The reference's glyphs of national sets: each code of each set.
-/
import Derived.Test.YtandfpghjbbalaaDoorChsC
namespace Go.Proofs.YtandfpghjbbalaaDoor
open Go Go.RowKit

def natL : Nat → List (Nat × Int)
  | 1 => []
  | 6 => [(35, 163)]
  | 7 => [(35, 163), (64, 190), (91, 307), (92, 189), (93, 124), (123, 168), (124, 402), (125, 188), (126, 180)]
  | 8 => [(91, 196), (92, 214), (93, 197), (94, 220), (96, 233), (123, 228), (124, 246), (125, 229), (126, 252)]
  | 9 => [(35, 163), (64, 224), (91, 176), (92, 231), (93, 167), (123, 233), (124, 249), (125, 232), (126, 168)]
  | 10 => [(64, 224), (91, 226), (92, 231), (93, 234), (94, 238), (96, 244), (123, 233), (124, 249), (125, 232), (126, 251)]
  | 11 => [(64, 167), (91, 196), (92, 214), (93, 220), (123, 228), (124, 246), (125, 252), (126, 223)]
  | 12 => [(35, 163), (64, 167), (91, 176), (92, 231), (93, 233), (96, 249), (123, 224), (124, 242), (125, 232), (126, 236)]
  | 13 => [(64, 196), (91, 198), (92, 216), (93, 197), (94, 220), (96, 228), (123, 230), (124, 248), (125, 229), (126, 252)]
  | 14 => [(91, 195), (92, 199), (93, 213), (123, 227), (124, 231), (125, 245)]
  | 15 => [(35, 163), (64, 167), (91, 161), (92, 209), (93, 191), (123, 176), (124, 241), (125, 231)]
  | 16 => [(64, 201), (91, 196), (92, 214), (93, 197), (94, 220), (96, 233), (123, 228), (124, 246), (125, 229), (126, 252)]
  | 17 => [(35, 249), (64, 224), (91, 233), (92, 231), (93, 234), (94, 238), (95, 232), (96, 244), (123, 228), (124, 246), (125, 252), (126, 251)]
  | _ => []
def natOk (k : Nat) : Bool := ((natL k).all fun p => gP k p.1 == p.2) && ((List.range 127).all fun c => decide (c < 32) || ((natL k).any fun p => c == p.1) || (gP k c == (c : Int)))
theorem nat_ok : (List.range 18).all (fun k => decide (k = 0) || decide (2 ≤ k ∧ k ≤ 5) || natOk k) = true := by decide +kernel
theorem nat_okk (k : Nat) (h : k < 18) (h0 : k ≠ 0) (h1 : ¬ (2 ≤ k ∧ k ≤ 5)) : natOk k = true := by
  have := List.all_eq_true.1 nat_ok k (by simpa using h)
  simpa [h0, h1] using this
theorem nat_in (k : Nat) (h : k < 18) (h0 : k ≠ 0) (h1 : ¬ (2 ≤ k ∧ k ≤ 5)) (p : Nat × Int) (hp : p ∈ natL k) : gP k p.1 = p.2 := by
  have := nat_okk k h h0 h1
  unfold natOk at this
  rw [Bool.and_eq_true] at this
  simpa using List.all_eq_true.1 this.1 p hp
theorem nat_out (k : Nat) (h : k < 18) (h0 : k ≠ 0) (h1 : ¬ (2 ≤ k ∧ k ≤ 5)) (c : Nat) (hc : c < 127) (h32 : 32 ≤ c) (hn : ∀ p ∈ natL k, c ≠ p.1) : gP k c = c := by
  have := nat_okk k h h0 h1
  unfold natOk at this
  rw [Bool.and_eq_true] at this
  have h2 := List.all_eq_true.1 this.2 c (by simpa using hc)
  rw [Bool.or_eq_true, Bool.or_eq_true] at h2
  rcases h2 with (h2 | h2) | h2
  · exact absurd h32 (by simpa using h2)
  · obtain ⟨p, hp, e⟩ := List.any_eq_true.1 h2
    exact absurd (by simpa using e) (hn p hp)
  · simpa using h2
end Go.Proofs.YtandfpghjbbalaaDoor

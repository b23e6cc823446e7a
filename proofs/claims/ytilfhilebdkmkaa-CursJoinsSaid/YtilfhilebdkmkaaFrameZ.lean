/-
  A pair of ints that came in, opened; moves by some steps and by some more. Plain facts.
-/
import Derived.Test.YtilfhilebdkmkaaFrameU
namespace Go.Proofs.Ytilfhilebdkmkaa
open Go.RowKit Go.ChangeShapes Go.WideShapes Go.Deep

theorem cellsTwo : Try.prog.cellsOf 61 = 2 := by kernel_rfl
theorem okWide_arr {P : Program} {W : World} {r : Reach} {base : Nat} {t e : TypeId} {n : Nat} {v : Value} (ht : P.underlying t = some (.array n e)) (h : Value.okWide P W r base t v) : ∃ cs, v = .agg cs ∧ cs.size = P.cellsOf t := by
  simp only [Value.okWide, ht] at h
  obtain ⟨cs, h1, h2, _⟩ := h
  exact ⟨cs, h1, h2⟩
theorem arr2_in {H : Type} {enc : TypeId × Value → H} {W : World} {base : Nat} {v : Value} {d : DataW H} {p : List MemPlace} (hv : Value.okWide Try.prog W .any base 61 v)
    (h : DataW.Trod enc Try.prog W 0 (fun _ => true) true 61 v d p) : ∃ a b : Int, v = .agg #[.int .i64 a, .int .i64 b] := by
  obtain ⟨⟨cs⟩, rfl, hsz⟩ := okWide_arr Try.underlying61 hv
  rw [cellsTwo] at hsz
  obtain ⟨fuel, hf⟩ := h
  match cs, hsz with
  | [c0, c1], _ =>
    obtain ⟨ys, m, _, hy, hyl, hyn, hel⟩ := DataW.trod_array Try.underlying61 hf
    simp only [cellsIntU] at hel
    have g0 := hel 0 (by decide)
    have g1 := hel 1 (by decide)
    match ys, hyn with
    | [u0, u1], _ =>
      obtain ⟨a0, b0, _⟩ := DataW.trod_int Try.underlying3 (show DataW.trod enc Try.prog W 0 (fun _ => true) true m 3 [c0] = some u0 from by simpa [Value.cells] using g0)
      obtain ⟨a1, b1, _⟩ := DataW.trod_int Try.underlying3 (show DataW.trod enc Try.prog W 0 (fun _ => true) true m 3 [c1] = some u1 from by simpa [Value.cells] using g1)
      simp at b0 b1
      subst b0 b1
      exact ⟨_, _, rfl⟩
theorem up_twice (p n m it D : Int) (hp : it ≤ p ∧ p ≤ D - 1) (hi : 0 ≤ it) (hn : 0 ≤ n) (hm : 0 ≤ m) : fewP (clipP (fewP p n 0 it) 0 (D - 1)) m 0 it = fewP p (n + m) 0 it := by
  have h1 : fewP p n 0 it = p - clipP n 0 (p - it) := by unfold fewP; rw [if_pos hp.1]
  have h2 : fewP p (n + m) 0 it = p - clipP (n + m) 0 (p - it) := by unfold fewP; rw [if_pos hp.1]
  have h3 : it ≤ p - clipP n 0 (p - it) := by unfold clipP; omega
  rw [h1, h2, show clipP (p - clipP n 0 (p - it)) 0 (D - 1) = p - clipP n 0 (p - it) from by unfold clipP; omega]
  unfold fewP
  rw [if_pos h3]
  unfold clipP; omega
theorem down_twice (p n m ib D : Int) (hp : 0 ≤ p ∧ p ≤ ib - 1) (hi : ib ≤ D) (hn : 0 ≤ n) (hm : 0 ≤ m) : moreP (clipP (moreP p n (D - 1) (ib - 1)) 0 (D - 1)) m (D - 1) (ib - 1) = moreP p (n + m) (D - 1) (ib - 1) := by
  have h1 : moreP p n (D - 1) (ib - 1) = p + clipP n 0 (ib - 1 - p) := by unfold moreP; rw [if_pos hp.2]
  have h2 : moreP p (n + m) (D - 1) (ib - 1) = p + clipP (n + m) 0 (ib - 1 - p) := by unfold moreP; rw [if_pos hp.2]
  have h3 : p + clipP n 0 (ib - 1 - p) ≤ ib - 1 := by unfold clipP; omega
  rw [h1, h2, show clipP (p + clipP n 0 (ib - 1 - p)) 0 (D - 1) = p + clipP n 0 (ib - 1 - p) from by unfold clipP; omega]
  unfold moreP
  rw [if_pos h3]
  unfold clipP; omega
theorem clip_twice (q D : Int) (h : 1 ≤ D) : clipP (clipP q 0 (D - 1)) 0 (D - 1) = clipP q 0 (D - 1) := by unfold clipP; omega
theorem ins_of {H W it il ib ir r c : Int} (h : insB H W it il ib ir r c = true) : (it ≤ clipP r 0 (H - 1) ∧ clipP r 0 (H - 1) ≤ ib - 1) ∧ (il ≤ clipP c 0 (W - 1) ∧ clipP c 0 (W - 1) ≤ ir - 1) := by
  unfold insB inB hasB at h
  simp only [Bool.and_eq_true, decide_eq_true_eq] at h
  omega
theorem ret_twice (og : Bool) (q il D : Int) (h : il ≤ q) (hi : 0 ≤ il ∧ il ≤ D - 1) : retC og q il = il ∧ retC og (clipP il 0 (D - 1)) il = il := by
  have : clipP il 0 (D - 1) = il := by unfold clipP; omega
  rw [this]
  exact ⟨if_pos (.inr h), if_pos (.inr (Int.le_refl _))⟩
end Go.Proofs.Ytilfhilebdkmkaa

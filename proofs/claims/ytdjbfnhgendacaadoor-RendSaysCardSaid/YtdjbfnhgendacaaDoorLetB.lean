/-
  Plain facts on the letters of renditions: reading them and seeking them come to the same.
-/
import Derived.Test.YtdjbfnhgendacaaDoorRendK
namespace Go.Proofs.YtdjbfnhgendacaaDoor
open Go

theorem fromP_letS {x : Int} (h0 : 0 ≤ x) (h1 : x ≤ 255) : fromP (letS x) = (x % 32, 0) := by
  have h := all_below (n := 256) (p := fun x => decide (fromP (letS x) = (x % 32, 0))) (by decide +kernel) h0 (by omega)
  simpa using h
theorem letN_congr {x y : Int} : ∀ k, (∀ j, j < k → fb x j = fb y j) → letN x k = letN y k
  | 0, _ => rfl
  | k + 1, h => by
    rw [letN, letN, letN_congr k (fun j hj => h j (by omega)), h k (by omega)]
theorem from_inv (s : ByteArray) : ∀ k, k ≤ 5 → letN (fromAt s k).2 k = (s.data.toList.take (fromAt s k).1).map (fun b => (b.toNat : Int)) ∧ ∀ j, k ≤ j → j < 5 → fb (fromAt s k).2 j = false
  | 0, _ => ⟨rfl, fun j _ hj => by
      match j, hj with
      | 0, _ => show fb 0 0 = false; decide
      | 1, _ => show fb 0 1 = false; decide
      | 2, _ => show fb 0 2 = false; decide
      | 3, _ => show fb 0 3 = false; decide
      | 4, _ => show fb 0 4 = false; decide⟩
  | k + 1, hk => by
    obtain ⟨h1, h2⟩ := from_inv s k (by omega)
    obtain ⟨_, hsz, r0, r1⟩ := fromAt_range s k (by omega)
    have hs := fromAt_step s k
    by_cases ht : takes s (fromAt s k).1 k
    · obtain ⟨hp, he⟩ := ht
      obtain ⟨e1, e2⟩ := hs.1 hp he
      have hor := (ap1_parts r0 r1).1 k (by omega)
      rw [e1, e2]
      refine ⟨?_, fun j hj hj5 => ?_⟩
      · rw [letN, hor.2.2 k (by omega), if_pos rfl, if_pos rfl, letN_congr k (y := (fromAt s k).2) (fun j hj => by rw [hor.2.2 j (by omega), if_neg (by omega)]), h1]
        have hl : (fromAt s k).1 < s.data.toList.length := by simpa using hp
        rw [take_snoc _ _ hl, List.map_append]
        congr 1
        simp only [List.map_cons, List.map_nil]
        rw [← he]
        rfl
      · rw [hor.2.2 j hj5, if_neg (by omega)]
        exact h2 j (by omega) hj5
    · have hno : ¬ (fromAt s k).1 < s.size ∨ ∃ h : (fromAt s k).1 < s.size, ¬ (s[(fromAt s k).1].toNat : Int) = pLet k := by
        by_cases hp : (fromAt s k).1 < s.size
        · exact .inr ⟨hp, fun e => ht ⟨hp, e⟩⟩
        · exact .inl hp
      obtain ⟨e1, e2⟩ := hs.2 hno
      rw [e1, e2]
      refine ⟨?_, fun j hj hj5 => h2 j (by omega) hj5⟩
      rw [letN, h2 k (Nat.le_refl _) (by omega), h1]
      simp
theorem from_back {s : ByteArray} (h : ¬ (fromAt s 5).1 < s.size) : letS (fromAt s 5).2 = s := by
  have h1 := (from_inv s 5 (Nat.le_refl _)).1
  unfold letS
  rw [h1]
  apply WideShapes.bytes_inj
  rw [strOfNums_data, List.take_of_length_le (by simpa using h), List.map_map]
  have : ((fun n : Int => UInt8.ofNat n.toNat) ∘ fun b : UInt8 => (b.toNat : Int)) = id := by
    funext b
    simp
  rw [this, List.map_id]
theorem seek_from (s : ByteArray) : (((seekL s 0).getD 0 : Nat) : Int) = (fromP s).1 ∧ (seekL s 0).isSome = ((fromP s).2 == 0) ∧ ((seekL s 0).isSome = false → (fromP s).2 = 3) := by
  by_cases h : (fromAt s 5).1 < s.size
  · have hn : seekL s 0 = none := by
      unfold seekL
      rw [List.find?_eq_none]
      intro m hm he
      simp only [decide_eq_true_eq] at he
      have hm32 : m < 32 := by simpa [List.mem_range'] using hm
      have := fromP_letS (x := (m : Int)) (by omega) (by omega)
      rw [he, fromP_no h] at this
      simp at this
    rw [hn, fromP_no h]
    exact ⟨rfl, rfl, fun _ => rfl⟩
  · have hb := from_back h
    obtain ⟨_, _, r0, r1⟩ := fromAt_range s 5 (Nat.le_refl _)
    have hs : seekL s 0 = some (fromAt s 5).2.toNat := by
      have hex : (seekL s 0).isSome = true := by
        unfold seekL
        rw [List.find?_isSome]
        exact ⟨(fromAt s 5).2.toNat, by simp [List.mem_range']; omega, by simp only [decide_eq_true_eq]; rw [Int.toNat_of_nonneg r0]; exact hb⟩
      obtain ⟨m, hm⟩ := Option.isSome_iff_exists.1 hex
      rw [hm]
      have hf := hm
      unfold seekL at hf
      have he := List.find?_some hf
      have hmem := List.mem_of_find?_eq_some hf
      simp only [decide_eq_true_eq] at he
      have hm32 : m < 32 := by simpa [List.mem_range'] using hmem
      have e1 := fromP_letS (x := (m : Int)) (by omega) (by omega)
      rw [he, fromP_yes h] at e1
      have e2 : (fromAt s 5).2 = (m : Int) % 32 := by simpa using congrArg Prod.fst e1
      congr 1
      omega
    rw [hs, fromP_yes h]
    refine ⟨?_, rfl, fun h => by cases h⟩
    simp only [Option.getD_some]
    omega
end Go.Proofs.YtdjbfnhgendacaaDoor

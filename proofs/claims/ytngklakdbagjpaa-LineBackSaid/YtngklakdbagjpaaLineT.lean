/-
  The walks of the reference: is a column within a span; how many columns a span has.
-/
import Derived.Test.YtngklakdbagjpaaLineS
import Derived.Test.YtngklakdbagjpaaLineN
namespace Go.Proofs.Ytngklakdbagjpaa
open Go.RowKit

/-- Is a column within a span of a line? -/
def inP (n : Nat) (f t i : Int) : Bool := decide (0 ≤ i ∧ i < n ∧ f ≤ i ∧ i < t)
theorem inP_nat (n : Nat) (f t : Int) (k : Nat) : inP n f t k = decide (loP f ≤ k ∧ k < hiP n t) := by
  unfold inP loP hiP
  rw [decide_eq_decide]
  omega
theorem inP_int (n : Nat) (f t i : Int) : inP n f t i = decide ((loP f : Int) ≤ i ∧ i < hiP n t) := by
  unfold inP loP hiP
  rw [decide_eq_decide]
  omega
set_option maxHeartbeats 1000000 in
theorem in_any (A : Option Addr) (n c : Nat) (size i f t : Int) (w : World) :
    Calls Try.prog 38 #[lineV A n c size, .int .i64 i, .int .i64 f, .int .i64 t] w fun e w' => e = .returned (.bool (inP n f t i)) ∧ Below w.heap.size w w' := by
  have HB := Lib.hid (show Below w.heap.size w (w.alloc (.cells #[.slice A n c, .int .i64 size] 24)) from (Below.refl _ _).alloc (Nat.le_refl _) _)
  have HP : Hid (inP n f t i = decide (0 ≤ i ∧ i < n ∧ f ≤ i ∧ i < t)) := Lib.hid rfl
  unfold lineV
  generalize inP n f t i = x at *
  by_cases h0 : 0 ≤ i
  · by_cases h1 : i < n
    · by_cases h2 : f ≤ i
      · by_cases h3 : i < t
        · obtain rfl : x = true := by rw [HP.out]; simp [h0, h1, h2, h3]
          have d0 : decide (0 ≤ i) = true := by simp; omega
          have d1 : decide (i < (n : Int)) = true := by simp; omega
          have d2 : decide (f ≤ i) = true := by simp; omega
          have d3 : decide (i < t) = true := by simp; omega
          go_enter Try.func38, Try.ntmps38
          go_wp2_with fail
          go_ret
          exact ⟨ret_bool rfl, HB.out⟩
        · obtain rfl : x = false := by rw [HP.out]; simp [h3]
          have d0 : decide (0 ≤ i) = true := by simp; omega
          have d1 : decide (i < (n : Int)) = true := by simp; omega
          have d2 : decide (f ≤ i) = true := by simp; omega
          have d3 : decide (i < t) = false := by simp; omega
          go_enter Try.func38, Try.ntmps38
          go_wp2_with fail
          go_ret
          exact ⟨ret_bool rfl, HB.out⟩
      · obtain rfl : x = false := by rw [HP.out]; simp [h2]
        have d0 : decide (0 ≤ i) = true := by simp; omega
        have d1 : decide (i < (n : Int)) = true := by simp; omega
        have d2 : decide (f ≤ i) = false := by simp; omega
        go_enter Try.func38, Try.ntmps38
        go_wp2_with fail
        go_ret
        exact ⟨ret_bool rfl, HB.out⟩
    · obtain rfl : x = false := by rw [HP.out]; simp [h1]
      have d0 : decide (0 ≤ i) = true := by simp; omega
      have d1 : decide (i < (n : Int)) = false := by simp; omega
      go_enter Try.func38, Try.ntmps38
      go_wp2_with fail
      go_ret
      exact ⟨ret_bool rfl, HB.out⟩
  · obtain rfl : x = false := by rw [HP.out]; simp [h0]
    have d0 : decide (0 ≤ i) = false := by simp; omega
    go_enter Try.func38, Try.ntmps38
    go_wp2_with fail
    go_ret
    exact ⟨ret_bool rfl, HB.out⟩

/-- A line's box is there, and nothing old has changed. -/
def KO (w : World) (x : Array Value) (w' : World) : Prop := Blk w' w.heap.size 24 x ∧ Below w.heap.size w w'
theorem KO.start (w : World) (x : Array Value) : KO w x (w.alloc (.cells x 24)) := ⟨Blk.new w _ x, (Below.refl _ _).alloc (Nat.le_refl _) _⟩
theorem KO.next {w W w' : World} {x : Array Value} (h : KO w x W) (hb : Below W.heap.size W w') : KO w x w' := ⟨h.1.next hb, h.2.trans (hb.mono h.2.size)⟩
theorem KO.two {w W : World} {a b : Value} (h : KO w #[a, b] W) : W.cell? ⟨w.heap.size, 0, none⟩ = some a ∧ W.cell? ⟨w.heap.size, 1, none⟩ = some b := ⟨h.1.cell 0, h.1.cell 1⟩

def firstP (F T : Nat) : Nat := if F < T then F else 0
set_option maxHeartbeats 2000000 in
theorem count_any (A : Option Addr) (n c : Nat) (size f t : Int) (hn : n ≤ 100000) (w : World) :
    Calls Try.prog 15 #[lineV A n c size, .int .i64 f, .int .i64 t] w fun e w' => e = .returned (.tuple #[.int .i64 (hiP n t - loP f : Nat), .int .i64 (firstP (loP f) (hiP n t) : Nat)]) ∧ Below w.heap.size w w' := by
  have HIn := Lib.hid (fun (k : Nat) W => (by have := in_any A n c size k f t W; rw [inP_nat] at this; exact this : Calls Try.prog 38 #[lineV A n c size, .int .i64 (k : Int), .int .i64 f, .int .i64 t] W fun e w' => e = .returned (.bool (decide (loP f ≤ k ∧ k < hiP n t))) ∧ Below W.heap.size W w'))
  have hT : hiP n t ≤ n := by unfold hiP; omega
  unfold lineV at *
  generalize loP f = F at *
  generalize hiP n t = T at *
  have HK := Lib.hid (KO.start w #[.slice A n c, .int .i64 size])
  obtain ⟨c0, c1⟩ := KO.two HK.out
  go_enter Try.func15, Try.ntmps15
  go_wp2_with fail
  clear c0 c1
  go_loopw [8, 9, 10] (fun a b i wr => ∃ (k : Nat) (j : Int), k ≤ n ∧ j = k - 1 ∧ i = .int .i64 j ∧ a = .int .i64 (T - max F k : Nat) ∧ b = .int .i64 (firstP (max F k) T : Nat) ∧ KO w #[.slice A n c, .int .i64 size] wr) (fun _ _ i _ => (intOf i + 1).toNat)
  case atStart => exact ⟨n, _, Nat.le_refl _, rfl, rfl, by rw [show T - max F n = 0 from by omega]; rfl, by unfold firstP; rw [if_neg (by omega)]; rfl, HK.out⟩
  case round =>
    obtain ⟨k, j, hk, hj, rfl, rfl, rfl, hko⟩ := hrel
    have HKO := Lib.hid hko
    clear hko
    rcases k with _ | m
    · obtain rfl : j = -1 := by omega
      have e1 : max F 0 = F := by omega
      rw [e1]
      clear e1 hj
      generalize hy : firstP F T = y
      have HY := Lib.hid hy
      clear hy
      go_wp2_with fail
      go_ret2
      exact ⟨by rw [HY.out]; rfl, HKO.out.2⟩
    · obtain rfl : j = m := by omega
      clear hj
      obtain ⟨c0, c1⟩ := KO.two HKO.out
      by_cases hin : F ≤ m ∧ m < T
      · have HI := Lib.hid (fun W => HIn.out m W)
        rw [decide_eq_true hin] at HI
        have HA : Hid (T - max F m = (T - max F (m + 1)) + 1) := Lib.hid (by omega)
        have HF : Hid (firstP (max F m) T = m) := Lib.hid (by unfold firstP; rw [if_pos (by omega)]; omega)
        have hb : T - max F (m + 1) ≤ 100000 := by omega
        clear hin
        generalize T - max F (m + 1) = a at *
        generalize firstP (max F (m + 1)) T = b at *
        go_wp2_with fail
        refine (HI.out _).mono ?_
        rintro e w1 ⟨rfl, hb1⟩
        have HK1 := Lib.hid (KO.next HKO.out hb1)
        clear hb1 c0 c1
        go_wp2_with fail
        go_roundw
        case rel => exact ⟨m, _, by omega, rfl, rfl, by rw [HA.out]; go_num, by rw [HF.out], HK1.out⟩
        case measure => simp [intOf]
      · have HI := Lib.hid (fun W => HIn.out m W)
        rw [decide_eq_false hin] at HI
        have HA : Hid (T - max F m = T - max F (m + 1) ∧ firstP (max F m) T = firstP (max F (m + 1)) T) := Lib.hid (by
          by_cases h : m < F
          · rw [show max F m = max F (m + 1) from by omega]; exact ⟨rfl, rfl⟩
          · exact ⟨by omega, by unfold firstP; rw [if_neg (by omega), if_neg (by omega)]⟩)
        clear hin
        generalize T - max F (m + 1) = a at *
        generalize firstP (max F (m + 1)) T = b at *
        go_wp2_with fail
        refine (HI.out _).mono ?_
        rintro e w1 ⟨rfl, hb1⟩
        have HK1 := Lib.hid (KO.next HKO.out hb1)
        clear hb1 c0 c1
        go_wp2_with fail
        go_roundw
        case rel => exact ⟨m, _, by omega, rfl, rfl, by rw [HA.out.1], by rw [HA.out.2], HK1.out⟩
        case measure => simp [intOf]
end Go.Proofs.Ytngklakdbagjpaa

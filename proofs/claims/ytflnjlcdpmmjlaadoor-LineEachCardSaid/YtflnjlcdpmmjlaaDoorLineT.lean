/-
  The walks of the reference: is a column within a span; how many columns a span has.
-/
import Derived.Test.YtflnjlcdpmmjlaaDoorLineS
import Derived.Test.YtflnjlcdpmmjlaaDoorLineN
namespace Go.Proofs.YtflnjlcdpmmjlaaDoor

open Go.RowKit

/-- Is a column within a span of a line? -/
def inP (n : Nat) (f t i : Int) : Bool := decide (0 ≤ i ∧ i < n ∧ f ≤ i ∧ i < t)
theorem inP_nat (n : Nat) (f t : Int) (k : Nat) : inP n f t k = decide (loP f ≤ k ∧ k < hiP n t) := by
  unfold inP loP hiP
  rw [decide_eq_decide]
  omega
theorem inP_int (n : Nat) (f t i : Int) : inP n f t i = decide ((loP f : Int) ≤ i ∧ i < hiP n t) := by
  unfold inP loP hiP
  rw [decide_eq_decide]
  omega
set_option maxRecDepth 100000 in
set_option maxHeartbeats 1000000 in
theorem in_any (A : Option Addr) (n c : Nat) (size i f t : Int) (w : World) :
    Calls Tryd.prog 30 #[lineV A n c size, .int .i64 i, .int .i64 f, .int .i64 t] w fun e w' => e = .returned (.bool (inP n f t i)) ∧ Below w.heap.size w w' := by
  have HB := Lib.hid (show Below w.heap.size w (w.alloc (.cells #[.slice A n c, .int .i64 size] 24)) from (Below.refl _ _).alloc (Nat.le_refl _) _)
  have HP : Hid (inP n f t i = decide (0 ≤ i ∧ i < n ∧ f ≤ i ∧ i < t)) := Lib.hid rfl
  unfold lineV
  generalize inP n f t i = x at *
  by_cases h0 : 0 ≤ i
  · by_cases h1 : i < n
    · by_cases h2 : f ≤ i
      · by_cases h3 : i < t
        · obtain rfl : x = true := by rw [HP.out]; simp [h0, h1, h2, h3]
          have d0 : decide (0 ≤ i) = true := by simp; omega
          have d1 : decide (i < (n : Int)) = true := by simp; omega
          have d2 : decide (f ≤ i) = true := by simp; omega
          have d3 : decide (i < t) = true := by simp; omega
          go_enter Tryd.func30, Tryd.ntmps30
          go_wp2_with fail
          go_ret
          exact ⟨ret_bool rfl, HB.out⟩
        · obtain rfl : x = false := by rw [HP.out]; simp [h3]
          have d0 : decide (0 ≤ i) = true := by simp; omega
          have d1 : decide (i < (n : Int)) = true := by simp; omega
          have d2 : decide (f ≤ i) = true := by simp; omega
          have d3 : decide (i < t) = false := by simp; omega
          go_enter Tryd.func30, Tryd.ntmps30
          go_wp2_with fail
          go_ret
          exact ⟨ret_bool rfl, HB.out⟩
      · obtain rfl : x = false := by rw [HP.out]; simp [h2]
        have d0 : decide (0 ≤ i) = true := by simp; omega
        have d1 : decide (i < (n : Int)) = true := by simp; omega
        have d2 : decide (f ≤ i) = false := by simp; omega
        go_enter Tryd.func30, Tryd.ntmps30
        go_wp2_with fail
        go_ret
        exact ⟨ret_bool rfl, HB.out⟩
    · obtain rfl : x = false := by rw [HP.out]; simp [h1]
      have d0 : decide (0 ≤ i) = true := by simp; omega
      have d1 : decide (i < (n : Int)) = false := by simp; omega
      go_enter Tryd.func30, Tryd.ntmps30
      go_wp2_with fail
      go_ret
      exact ⟨ret_bool rfl, HB.out⟩
  · obtain rfl : x = false := by rw [HP.out]; simp [h0]
    have d0 : decide (0 ≤ i) = false := by simp; omega
    go_enter Tryd.func30, Tryd.ntmps30
    go_wp2_with fail
    go_ret
    exact ⟨ret_bool rfl, HB.out⟩

/-- A line's box is there, and nothing old has changed. -/
def KO (w : World) (x : Array Value) (w' : World) : Prop := Blk w' w.heap.size 24 x ∧ Below w.heap.size w w'
theorem KO.start (w : World) (x : Array Value) : KO w x (w.alloc (.cells x 24)) := ⟨Blk.new w _ x, (Below.refl _ _).alloc (Nat.le_refl _) _⟩
theorem KO.next {w W w' : World} {x : Array Value} (h : KO w x W) (hb : Below W.heap.size W w') : KO w x w' := ⟨h.1.next hb, h.2.trans (hb.mono h.2.size)⟩
theorem KO.two {w W : World} {a b : Value} (h : KO w #[a, b] W) : W.cell? ⟨w.heap.size, 0, none⟩ = some a ∧ W.cell? ⟨w.heap.size, 1, none⟩ = some b := ⟨h.1.cell 0, h.1.cell 1⟩

def firstP (F T : Nat) : Nat := if F < T then F else 0

end Go.Proofs.YtflnjlcdpmmjlaaDoor

/-
  The walks of lines: how many of a span are meant; a span of a line.
-/
import Derived.Test.YtbndnaohjloanaaDoorLineA
import Derived.RegionTactic
namespace Go.Proofs.YtbndnaohjloanaaDoor

open Go.RowKit

/-- How many of n a count means. -/
def cntP (n : Nat) (k : Int) : Nat := min k.toNat n
set_option maxRecDepth 100000 in
theorem counted_any (A : Option Addr) (n c : Nat) (k : Int) (w : World) :
    Calls Tryd.prog 22 #[.slice A n c, .int .i64 k] w fun e w' => e = .returned (.int .i64 (cntP n k)) ∧ w = w' := by
  have HC : Hid ((cntP n k : Int) = min (max k 0) n) := Lib.hid (by unfold cntP; omega)
  generalize cntP n k = x at *
  go_enter Tryd.func22, Tryd.ntmps22
  go_wp2_with fail
  all_goals
    go_ret
    exact ⟨ret_int (by rw [HC.out]), rfl⟩

/-- A span's first column, and the one behind its last. -/
def loP (f : Int) : Nat := f.toNat
def hiP (n : Nat) (t : Int) : Nat := min t.toNat n
set_option maxRecDepth 100000 in
set_option maxHeartbeats 1000000 in
theorem part_none (A : Option Addr) (n c : Nat) (size f t : Int) (h : hiP n t ≤ loP f) (w : World) :
    Calls Tryd.prog 21 #[lineV A n c size, .int .i64 f, .int .i64 t] w fun e w' => e = .returned (.slice none 0 0) ∧ Below w.heap.size w w' := by
  have hd : min t n ≤ max f 0 := by unfold hiP loP at h; omega
  unfold lineV
  have HK := Lib.hid (Blk.new w 29 #[.slice A n c, .int .i64 size])
  have hB := Lib.hid (show Below w.heap.size w (w.alloc (.cells #[.slice A n c, .int .i64 size] 29)) from (Below.refl _ _).alloc (Nat.le_refl _) _)
  clear h
  go_enter Tryd.func21, Tryd.ntmps21
  go_wp2_with fail
  go_quiet (fail)
  go_wp2_with fail
  go_ret
  exact ⟨rfl, below_drewN hB.out _⟩
set_option maxRecDepth 100000 in
set_option maxHeartbeats 1000000 in
theorem part_some (ad : Addr) (n c : Nat) (size f t : Int) (hc : n ≤ c) (h : loP f < hiP n t) (w : World) :
    Calls Tryd.prog 21 #[lineV (some ad) n c size, .int .i64 f, .int .i64 t] w fun e w' => e = .returned (.slice (some (ad.add (loP f * 3))) (hiP n t - loP f) (c - loP f)) ∧ Below w.heap.size w w' := by
  have hmax : max f 0 = (loP f : Int) := by unfold loP; omega
  have hmin : min t (n : Int) = (hiP n t : Int) := by unfold hiP at *; unfold loP at h; omega
  have hT : hiP n t ≤ n := by unfold hiP; omega
  unfold lineV
  have HK := Lib.hid (Blk.new w 29 #[.slice (some ad) n c, .int .i64 size])
  have hB := Lib.hid (show Below w.heap.size w (w.alloc (.cells #[.slice (some ad) n c, .int .i64 size] 29)) from (Below.refl _ _).alloc (Nat.le_refl _) _)
  generalize loP f = F at *
  generalize hiP n t = T at *
  go_enter Tryd.func21, Tryd.ntmps21
  go_wp2_with fail
  go_quiet (fail)
  go_wp2_with fail
  go_ret
  exact ⟨rfl, below_drewN hB.out _⟩
end Go.Proofs.YtbndnaohjloanaaDoor

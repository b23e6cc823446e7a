/-
  Runs of cells: whether one takes a cell; its seven bytes; two rows held against each other.
-/
import Derived.Test.YtgndjonalhdhkaaDoorCellF
import Derived.Test.YtgndjonalhdhkaaDoorCuts
namespace Go.Proofs.YtgndjonalhdhkaaDoor

open Go.RowKit

/-- A run takes a cell that comes next. -/
def takesC (n : Int) (x y : Cl) : Bool := decide (0 < n) && (decide (n < 255) && x.beq y)

set_option maxHeartbeats 1000000 in
theorem takes_any (x y : Cl) (n : Int) (w : World) :
    Calls Tryd.prog 23 #[.agg #[.int .i32 x.g, .int .u8 x.r, .bool x.k, .int .i64 n], .agg #[.int .i32 y.g, .int .u8 y.r, .bool y.k]] w fun e w' => e = .returned (.bool (takesC n x y)) ∧ Below w.heap.size w w' := by
  have HE := Lib.hid (fun W => eql_cells W x y)
  have HG := Lib.hid (fun W p q => guard_cells .eql W p q x y)
  obtain ⟨g, r, k⟩ := x
  obtain ⟨g', r', k'⟩ := y
  unfold Cl.val at HE HG
  have HT := Lib.hid (show takesC n ⟨g, r, k⟩ ⟨g', r', k'⟩ = (decide (0 < n) && (decide (n < 255) && Cl.beq ⟨g, r, k⟩ ⟨g', r', k'⟩)) from rfl)
  generalize takesC n ⟨g, r, k⟩ ⟨g', r', k'⟩ = T at *
  generalize Cl.beq ⟨g, r, k⟩ ⟨g', r', k'⟩ = E at *
  by_cases h1 : 0 < n
  · by_cases h2 : n < 255
    · have HF : Hid (T = E) := Lib.hid (by rw [HT.out]; simp [h1, h2])
      have he := HE.out
      have hg := HG.out
      go_enter Tryd.func23, Tryd.ntmps23
      go_wp2
      go_ret
      exact ⟨ret_bool HF.out.symm, by go_grown⟩
    · have HF : Hid (T = false) := Lib.hid (by rw [HT.out]; simp [h2])
      go_enter Tryd.func23, Tryd.ntmps23
      go_wp2
      go_ret
      exact ⟨ret_bool HF.out.symm, by go_grown⟩
  · have HF : Hid (T = false) := Lib.hid (by rw [HT.out]; simp [h1])
    go_enter Tryd.func23, Tryd.ntmps23
    go_wp2
    go_ret
    exact ⟨ret_bool HF.out.symm, by go_grown⟩

/-- A run's seven bytes. -/
def run7 (x : Cl) (n : Int) : List Int := [n, x.g % 4294967296 / 16777216, x.g % 4294967296 / 65536 % 256, x.g % 4294967296 / 256 % 256, x.g % 256, x.r, if x.k then 1 else 0]

set_option maxHeartbeats 1000000 in
theorem bytes_any (x : Cl) (n : Int) (hr : 0 ≤ x.r ∧ x.r ≤ 255) (hn : 0 ≤ n ∧ n ≤ 255) (w : World) :
    Calls Tryd.prog 21 #[.agg #[.int .i32 x.g, .int .u8 x.r, .bool x.k, .int .i64 n]] w fun e w' => e = .returned (.agg ((run7 x n).map (Value.int .u8)).toArray) ∧ Below w.heap.size w w' := by
  obtain ⟨g, r, k⟩ := x
  obtain ⟨r0, r1⟩ := hr
  obtain ⟨n0, n1⟩ := hn
  simp only at r0 r1
  cases k
  · go_enter Tryd.func21, Tryd.ntmps21
    go_wp2
    go_returns
    exact ⟨by simp [run7], by go_grown⟩
  · go_enter Tryd.func21, Tryd.ntmps21
    go_wp2
    go_returns
    exact ⟨by simp [run7], by go_grown⟩
end Go.Proofs.YtgndjonalhdhkaaDoor

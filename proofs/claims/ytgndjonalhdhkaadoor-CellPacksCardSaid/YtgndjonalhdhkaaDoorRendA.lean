/-
  The walks of the layer of renditions: what each function of it, and of its reference, returns; old memory stays as it was.
-/
import Derived.Test.YtgndjonalhdhkaaDoorKit
namespace Go.Proofs.YtgndjonalhdhkaaDoor

open Go.RowKit

set_option maxHeartbeats 400000 in
theorem weight_any (x : Int) (h0 : 0 ≤ x) (h1 : x ≤ 255) (w : World) (ht : Tab w) :
    Calls Tryd.prog 24 #[.int .u8 x] w fun e w' => e = .returned (.int .i64 (wt x)) ∧ Below w.heap.size w w' := by
  go_enter Tryd.func24, Tryd.ntmps24
  go_wp2_with (with_reducible refine wpList_load_tab ht rfl _ rfl rfl ?_)
  go_loopw [3, 7] (fun s i wr => ∃ k : Nat, k ≤ 5 ∧ i = .int .i64 k ∧ s = .int .i64 (wtK x k) ∧ Below w.heap.size w wr) (fun _ i _ => 5 - (intOf i).toNat)
  case atStart => exact ⟨0, by omega, rfl, rfl, Below.refl _ _⟩
  case round =>
    obtain ⟨k, hk, rfl, rfl, hb⟩ := hrel
    by_cases hlt : k < 5
    · have hi := idx_tab k hlt
      have hbit := hasBit_fb h0 h1 k hlt
      have hwt := wtK_range x k hk
      have hwt2 : 0 ≤ pWt k ∧ pWt k ≤ 128 := by
        match k, hlt with
        | 0, _ => decide
        | 1, _ => decide
        | 2, _ => decide
        | 3, _ => decide
        | 4, _ => decide
      obtain ⟨a1, a2⟩ := hwt
      obtain ⟨b1, b2⟩ := hwt2
      cases hf : fb x k
      all_goals
        have Hf := Lib.hid hf
        rw [hf] at hbit
        clear hf
        go_wp2
        go_roundw
        case rel => exact ⟨k + 1, by omega, by go_num, by simp [wtK, Hf.out], hb.alloc hb.size _⟩
        case measure => simp [intOf]; omega
    · obtain rfl : k = 5 := by omega
      go_wp2
      go_ret
      exact ⟨rfl, hb⟩
end Go.Proofs.YtgndjonalhdhkaaDoor

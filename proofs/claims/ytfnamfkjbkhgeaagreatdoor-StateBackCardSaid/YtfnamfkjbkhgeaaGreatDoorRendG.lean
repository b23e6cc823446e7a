/-
  The walk of the numbers that make a rendition, and of its letters.
-/
import Derived.Test.YtfnamfkjbkhgeaaGreatDoorKit2
import Derived.Test.YtfnamfkjbkhgeaaGreatDoorKit
namespace Go.Proofs.YtfnamfkjbkhgeaaGreatDoor

open Go.RowKit

theorem parK_len (x : Int) : ∀ k, (parK x k).length ≤ k + 1
  | 0 => by simp [parK]
  | k + 1 => by
    have := parK_len x k
    rw [parK, List.length_append]
    split <;> simp <;> omega

set_option maxHeartbeats 800000 in
theorem params_any (x : Int) (h0 : 0 ≤ x) (h1 : x ≤ 255) (w : World) (ht : Tab w) :
    Calls Tryz.prog 53 #[.int .u8 x] w fun e w' => ∃ v, e = .returned v ∧ OInts w' w.heap.size v (parK x 5) ∧ Below w.heap.size w w' := by
  go_enter Tryz.func53, Tryz.ntmps53
  go_wp2_with (with_reducible refine wpList_load_tab (ht.next ((Below.refl _ _).alloc (Nat.le_refl _) _)) rfl _ rfl rfl ?_)
  go_loopw [3, 8] (fun s i wr => ∃ k : Nat, k ≤ 5 ∧ i = .int .i64 k ∧ OInts wr w.heap.size s (parK x k) ∧ Below w.heap.size w wr) (fun _ i _ => 5 - (intOf i).toNat)
  case atStart => exact ⟨0, by omega, rfl, oints_one rfl 0 _ _ (Nat.le_refl _) rfl, (Below.refl _ _).alloc (Nat.le_refl _) _⟩
  case round =>
    obtain ⟨k, hk, rfl, hown, hb⟩ := hrel
    by_cases hlt : k < 5
    · have hi := idx_tab k hlt
      have hbit := hasBit_fb h0 h1 k hlt
      have hlen := parK_len x k
      cases hf : fb x k
      · have Hf := Lib.hid hf
        rw [hf] at hbit
        clear hf hlen
        go_wp2
        go_roundw
        case rel => exact ⟨k + 1, by omega, by go_num, by rw [parK, Hf.out]; simpa [OInts] using World.ownsRow.alloc hown _, hb.alloc hb.size _⟩
        case measure => simp [intOf]; omega
      · have Hf := Lib.hid hf
        rw [hf] at hbit
        clear hf
        go_wp2_with (at_builtin; refine wpList_push rfl _ _ _ rfl w.heap.size 3 (.int .i64 0) 8 Tryz.underlying64 info_int rfl _ _ _ rfl (World.ownsRow.alloc hown _) (.int .i64 (pOn k)) rfl _ _ _ (by simp) rfl (by unfold maxLen; omega) (by omega) (Nat.le_trans hb.size (by simp)) ?_; intro v' w' hown' hg' hb')
        go_roundw
        case rel => exact ⟨k + 1, by omega, by go_num, by rw [parK, Hf.out]; simpa [OInts] using hown', (hb.alloc hb.size _).trans hb'⟩
        case measure => simp [intOf]; omega
    · obtain rfl : k = 5 := by omega
      go_wp2
      go_ret
      exact ⟨_, rfl, hown, hb⟩
end Go.Proofs.YtfnamfkjbkhgeaaGreatDoor

/-
  The walks of renditions' numbers: what one number does, what it turns over, and what lists of them do.
-/
import Derived.Test.YtfnamfkjbkhgeaaGreatDoorKit
namespace Go.Proofs.YtfnamfkjbkhgeaaGreatDoor

open Go.RowKit

set_option maxHeartbeats 400000 in
theorem applyOne_any (y n : Int) (w : World) (ht : Tab w) :
    Calls Tryz.prog 102 #[.int .u8 y, .int .i64 n] w fun e w' => e = .returned (.int .u8 (ap1 y n)) ∧ Below w.heap.size w w' := by
  by_cases hn : n = 0
  · subst hn
    go_enter Tryz.func102, Tryz.ntmps102
    go_wp2
    go_ret
    exact ⟨rfl, Below.refl _ _⟩
  · have hn0 : (n == 0) = false := by simpa using hn
    go_enter Tryz.func102, Tryz.ntmps102
    go_wp2_with (with_reducible refine wpList_load_tab ht rfl _ rfl rfl ?_)
    go_loopw [10] (fun i wr => ∃ k : Nat, k ≤ 5 ∧ i = .int .i64 k ∧ (∀ j, j < k → n ≠ pOn j ∧ n ≠ pOff j) ∧ Below w.heap.size w wr) (fun i _ => 5 - (intOf i).toNat)
    case atStart => exact ⟨0, by omega, rfl, fun j hj => absurd hj (by omega), Below.refl _ _⟩
    case round =>
      obtain ⟨k, hk, rfl, hno, hb⟩ := hrel
      have HNo := Lib.hid hno
      clear hno
      by_cases hlt : k < 5
      · have hi := idx_tab k hlt
        by_cases e1 : n = pOn k
        · have E1 := Lib.hid e1
          have t1 : (n == pOn k) = true := by simpa using e1
          clear e1
          go_wp2
          go_ret
          exact ⟨ret_int (by rw [E1.out, ap1_on y k hlt]), hb.alloc hb.size _⟩
        · have t1 : (n == pOn k) = false := by simpa using e1
          have E1 := Lib.hid e1
          clear e1
          by_cases e2 : n = pOff k
          · have E2 := Lib.hid e2
            have t2 : (n == pOff k) = true := by simpa using e2
            clear e2
            go_wp2
            go_ret
            exact ⟨ret_int (by rw [E2.out, ap1_off y k hlt]), hb.alloc hb.size _⟩
          · have t2 : (n == pOff k) = false := by simpa using e2
            have E2 := Lib.hid e2
            clear e2
            go_wp2
            go_roundw
            case rel =>
              refine ⟨k + 1, by omega, by go_num, fun j hj => ?_, hb.alloc hb.size _⟩
              by_cases hjk : j = k
              · subst hjk; exact ⟨E1.out, E2.out⟩
              · exact HNo.out j (by omega)
            case measure => simp [intOf]; omega
      · obtain rfl : k = 5 := by omega
        go_wp2
        go_ret
        exact ⟨ret_int (ap1_none hn HNo.out).symm, hb⟩


set_option maxHeartbeats 400000 in
theorem apply_any (x : Int) (h0 : 0 ≤ x) (h1 : x ≤ 255) (A : Option Addr) (c : Nat) (ns : List Int) (hm : ns.length ≤ maxLen) (w : World) (ht : Tab w) (hr : RInts w A ns) :
    Calls Tryz.prog 66 #[.int .u8 x, .slice A ns.length c] w fun e w' => e = .returned (.int .u8 (apply x ns)) ∧ Below w.heap.size w w' := by
  unfold maxLen at hm
  by_cases hn : ns = []
  · subst hn
    go_enter Tryz.func66, Tryz.ntmps66
    go_wp2
    go_ret
    exact ⟨rfl, Below.refl _ _⟩
  · have hl : 0 < ns.length := List.length_pos_iff.2 hn
    have hl0 : ((ns.length : Int) == 0) = false := by simp; omega
    have hmask := mask31 h0 h1
    have hap : ns.foldl ap1 (x % 32) = apply x ns := by simp [apply, hn]
    have HAp := Lib.hid hap
    clear hap
    go_enter Tryz.func66, Tryz.ntmps66
    go_wp2
    go_loopw [0, 14] (fun r i wr => ∃ k : Nat, k ≤ ns.length ∧ i = .int .i64 k ∧ r = .int .u8 ((ns.take k).foldl ap1 (x % 32)) ∧ Below w.heap.size w wr) (fun _ i _ => ns.length - (intOf i).toNat)
    case atStart => exact ⟨0, by omega, rfl, rfl, Below.refl _ _⟩
    case round =>
      obtain ⟨k, hk, rfl, rfl, hb⟩ := hrel
      clear hmask
      by_cases hlt : k < ns.length
      · obtain ⟨ad, rfl, hbd, hc⟩ := (hr.next hb).at_ hlt
        have HF := Lib.hid (foldl_snoc ap1 (x % 32) ns k hlt)
        generalize (ns.take k).foldl ap1 (x % 32) = y at *
        generalize ns[k] = n at *
        go_wp2_with (go_at_call 102; refine (applyOne_any y n _ (ht.next hb)).mono ?_; rintro e w1 ⟨rfl, hb1⟩)
        go_roundw
        case rel => exact ⟨k + 1, by omega, by go_num, by rw [HF.out], hb.trans (hb1.mono hb.size)⟩
        case measure => simp [intOf]; omega
      · obtain rfl : k = ns.length := by omega
        go_wp2
        go_ret
        exact ⟨ret_int (by rw [← HAp.out, List.take_length]), hb⟩


end Go.Proofs.YtfnamfkjbkhgeaaGreatDoor

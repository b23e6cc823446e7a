/-
  Two lists of ints held against each other.
-/
import Derived.Test.YtigaaidacndeiaaGreatDoorGen
namespace Go.Proofs.YtigaaidacndeiaaGreatDoor

open Go.RowKit

set_option maxHeartbeats 800000 in
theorem sameInts_any (A B : Option Addr) (c d : Nat) (ns ms : List Int) (hn : ns.length ≤ maxLen) (hm : ms.length ≤ maxLen) (w : World) (hr : RInts w A ns) (hs : RInts w B ms) :
    Calls Tryz.prog 12 #[.slice A ns.length c, .slice B ms.length d] w fun e w' => e = .returned (.bool (ns == ms)) ∧ Below w.heap.size w w' := by
  unfold maxLen at hn hm
  by_cases hl : ns.length = ms.length
  · have hl0 : ((ns.length : Int) != ms.length) = false := by simp; omega
    have HL := Lib.hid hl
    clear hl
    go_enter Tryz.func12, Tryz.ntmps12
    go_wp2
    go_loopw [5] (fun i wr => ∃ k : Nat, k ≤ ns.length ∧ i = .int .i64 k ∧ ns.take k = ms.take k ∧ Below w.heap.size w wr) (fun i _ => ns.length - (intOf i).toNat)
    case atStart => exact ⟨0, by omega, rfl, rfl, Below.refl _ _⟩
    case round =>
      obtain ⟨k, hk, rfl, heq, hb⟩ := hrel
      have HEq := Lib.hid heq
      clear heq hl0
      by_cases hlt : k < ns.length
      · have hlt2 : k < ms.length := by rw [← HL.out]; exact hlt
        obtain ⟨ad, rfl, hbd, hc⟩ := (hr.next hb).at_ hlt
        obtain ⟨bd, rfl, hbe, hd⟩ := (hs.next hb).at_ hlt2
        have HT := Lib.hid (take_snoc ns k hlt)
        have HU := Lib.hid (take_snoc ms k hlt2)
        by_cases e : ns[k] = ms[k]
        · have E := Lib.hid e
          have t : (ns[k] == ms[k]) = true := by simpa using e
          have t2 : (ns[k] != ms[k]) = false := by simpa using e
          clear e
          go_wp2_with fail
          go_quiet (fail)
          go_wp2
          go_roundw
          case rel => exact ⟨k + 1, by omega, by go_num, by rw [HT.out, HU.out, HEq.out, E.out], below_drewN hb _⟩
          case measure => simp [intOf]; omega
        · have hne : (ns == ms) = false := by
            rw [beq_eq_false_iff_ne]; rintro rfl; exact e rfl
          have HNe := Lib.hid hne
          clear hne
          have t : (ns[k] == ms[k]) = false := by simpa using e
          have t2 : (ns[k] != ms[k]) = true := by simpa using e
          clear e
          go_wp2_with fail
          go_quiet (fail)
          go_wp2
          go_ret
          exact ⟨ret_bool HNe.out.symm, below_drewN hb _⟩
      · obtain rfl : k = ns.length := by omega
        go_wp2
        go_ret
        exact ⟨ret_bool (by
          have := HEq.out
          rw [List.take_length, HL.out, List.take_length] at this
          simp [this]), hb⟩
  · have hl0 : ((ns.length : Int) != ms.length) = true := by simp; omega
    have hne : (ns == ms) = false := by
      rw [beq_eq_false_iff_ne]; rintro rfl; exact hl rfl
    go_enter Tryz.func12, Tryz.ntmps12
    go_wp2
    go_ret
    exact ⟨ret_bool hne.symm, Below.refl _ _⟩
end Go.Proofs.YtigaaidacndeiaaGreatDoor

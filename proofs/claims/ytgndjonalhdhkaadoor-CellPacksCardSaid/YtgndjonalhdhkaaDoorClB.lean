/-
  Two rows of cells held against each other.
-/
import Derived.Test.YtgndjonalhdhkaaDoorCl
import Derived.Test.YtgndjonalhdhkaaDoorCuts
namespace Go.Proofs.YtgndjonalhdhkaaDoor

open Go.RowKit

instance : DecidableEq Cl := fun x y => decidable_of_iff (x.beq y = true) (Cl.beq_iff x y)

set_option maxRecDepth 100000 in
set_option maxHeartbeats 1600000 in
theorem sameCells_any (A B : Option Addr) (c d : Nat) (l m : List Cl) (hl : l.length ≤ maxLen) (hm : m.length ≤ maxLen) (w : World) (hr : RCells w A l) (hs : RCells w B m) :
    Calls Tryd.prog 10 #[.slice A l.length c, .slice B m.length d] w fun e w' => e = .returned (.bool (decide (l = m))) ∧ Below w.heap.size w w' := by
  unfold maxLen at hl hm
  by_cases hlen : l.length = m.length
  · have hl0 : ((l.length : Int) != m.length) = false := by simp; omega
    have HL := Lib.hid hlen
    clear hlen
    go_enter Tryd.func10, Tryd.ntmps10
    go_wp2
    go_loopw [5] (fun i wr => ∃ k : Nat, k ≤ l.length ∧ i = .int .i64 k ∧ l.take k = m.take k ∧ Below w.heap.size w wr) (fun i _ => l.length - (intOf i).toNat)
    case atStart => exact ⟨0, by omega, rfl, rfl, Below.refl _ _⟩
    case round =>
      obtain ⟨k, hk, rfl, heq, hb⟩ := hrel
      have HEq := Lib.hid heq
      clear heq hl0
      by_cases hlt : k < l.length
      · have hlt2 : k < m.length := by rw [← HL.out]; exact hlt
        obtain ⟨ad, rfl, hbd, hc0, hc1, hc2⟩ := (hr.next hb).at_ hlt
        obtain ⟨bd, rfl, hbe, hd0, hd1, hd2⟩ := (hs.next hb).at_ hlt2
        have HT := Lib.hid (take_snoc l k hlt)
        have HU := Lib.hid (take_snoc m k hlt2)
        have HN := Lib.hid (fun W => neq_cells W l[k] m[k])
        have HG := Lib.hid (fun W p q => guard_cells .neq W p q l[k] m[k])
        unfold Cl.val at HN HG
        by_cases e : l[k] = m[k]
        · have E := Lib.hid e
          have hbq : Cl.beq l[k] m[k] = true := (Cl.beq_iff _ _).2 e
          have hn := HN.out
          rw [hbq] at hn
          have hg := HG.out
          clear hbq e
          generalize l[k] = x at *
          generalize m[k] = y at *
          obtain ⟨g, r, q⟩ := x
          obtain ⟨g', r', q'⟩ := y
          simp only at hc0 hc1 hc2 hd0 hd1 hd2 hn hg
          go_wp2_with fail
          go_quiet (fail)
          go_wp2
          go_roundw
          case rel => exact ⟨k + 1, by omega, by go_num, by rw [HT.out, HU.out, HEq.out, E.out], below_drewN hb _⟩
          case measure => simp [intOf]; omega
        · have hbq : Cl.beq l[k] m[k] = false := by
            rw [← Bool.not_eq_true, Cl.beq_iff]; exact e
          have hn := HN.out
          rw [hbq] at hn
          have hg := HG.out
          have hne : decide (l = m) = false := by
            rw [decide_eq_false_iff_not]; rintro rfl; exact e rfl
          have HNe := Lib.hid hne
          clear hbq e hne
          generalize l[k] = x at *
          generalize m[k] = y at *
          obtain ⟨g, r, q⟩ := x
          obtain ⟨g', r', q'⟩ := y
          simp only at hc0 hc1 hc2 hd0 hd1 hd2 hn hg
          go_wp2_with fail
          go_quiet (fail)
          go_wp2
          go_ret
          exact ⟨ret_bool HNe.out.symm, below_drewN hb _⟩
      · obtain rfl : k = l.length := by omega
        go_wp2
        go_ret
        exact ⟨ret_bool (by
          have := HEq.out
          rw [List.take_length, HL.out, List.take_length] at this
          simp [this]), hb⟩
  · have hl0 : ((l.length : Int) != m.length) = true := by simp; omega
    have hne : decide (l = m) = false := by
      rw [decide_eq_false_iff_not]; rintro rfl; exact hlen rfl
    have HNe := Lib.hid hne
    clear hne
    go_enter Tryd.func10, Tryd.ntmps10
    go_wp2
    go_ret
    exact ⟨ret_bool HNe.out.symm, Below.refl _ _⟩
end Go.Proofs.YtgndjonalhdhkaaDoor

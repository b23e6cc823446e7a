/-
  The walk that writes a report of stops: the reference's.
-/
import Derived.Test.YtnfdgioapbkonaaDoorTabQ
namespace Go.Proofs.YtnfdgioapbkonaaDoor
open Go Go.RowKit Go.Sort

set_option maxHeartbeats 4000000 in
theorem refReport_any (A : Option Addr) (c : Nat) (l : List Bool) (hl : l.length ≤ 500) (w : World) (hr : RBools w A l) :
    Calls Tryd.prog 8 #[.slice A l.length c] w fun e w' => e = .returned (.string (repB (lstP (hOf l) l.length))) ∧ Below w.heap.size w w' := by
  have HR := Lib.hid hr
  clear hr
  go_enter Tryd.func8, Tryd.ntmps8
  go_wp2_with fail
  go_loopw [3, 4] (fun t i wr => ∃ (k : Nat), k ≤ l.length ∧ i = .int .i64 k ∧ t = .string (repB (lstP (hOf l) k)) ∧ Below w.heap.size w wr) (fun _ i _ => l.length - (intOf i).toNat)
  case atStart => exact ⟨0, by omega, rfl, rfl, Below.refl _ _⟩
  case round =>
    obtain ⟨k, hk, rfl, rfl, hb⟩ := hrel
    have HB := Lib.hid hb
    clear hb
    by_cases hlt : k < l.length
    · obtain ⟨ad, rfl, _, hc⟩ := (HR.out.next HB.out).at_ hlt
      rw [← hOf_in l k hlt] at hc
      rcases hh : hOf l k with _ | _
      · rw [hh] at hc
        have HL := Lib.hid (show repB (lstP (hOf l) (k + 1)) = repB (lstP (hOf l) k) from by rw [lstP_no (hOf l) k hh])
        clear hh
        generalize repB (lstP (hOf l) k) = T at *
        go_wp2_with fail
        go_roundw
        case rel => exact ⟨k + 1, by omega, by go_num, by rw [HL.out], HB.out⟩
        case measure => simp [intOf]; omega
      · rw [hh] at hc
        have HL := Lib.hid (lstP_yes (hOf l) k hh)
        have hll := lstP_len (hOf l) k
        have HMm := Lib.hid (lstP_mem (hOf l) k)
        have HD := Lib.hid (decimal1 k (by omega))
        have hds : (bytesOf (dig (k : Int))).size ≤ 5 := by
          have h2 := dig_len (k : Int) (by omega)
          show (dig (k : Int)).toArray.size ≤ 5
          simpa using h2
        clear hh
        generalize lstP (hOf l) k = L at *
        have hsz := repB_size L (fun x hx => by have := HMm.out x hx; omega)
        rcases Nat.eq_zero_or_pos L.length with h0 | h0
        · obtain rfl := List.eq_nil_of_length_eq_zero h0
          have HS := Lib.hid (repB_one (k : Int))
          rw [repB_nil] at *
          generalize bytesOf (dig (k : Int)) = D at *
          go_wp2_with fail
          refine (HD.out _).mono ?_
          rintro e w1 ⟨rfl, hb1⟩
          have HB1 := Lib.hid (bstp HB.out hb1)
          clear hb1
          go_wp2_with fail
          go_roundw
          case rel => exact ⟨k + 1, by omega, by go_num, by rw [HL.out]; simp only [List.nil_append]; rw [HS.out]; first | rfl | simp, HB1.out⟩
          case measure => simp [intOf]; omega
        · have hne : L ≠ [] := fun e => by rw [e] at h0; simp at h0
          have HS := Lib.hid (repB_snoc L (k : Int) hne)
          have hnb := repB_ne L hne
          clear hne
          generalize bytesOf (dig (k : Int)) = D at *
          generalize repB L = T at *
          have hTs : T.size ≤ 3000 := by omega
          go_wp2_with fail
          refine (HD.out _).mono ?_
          rintro e w1 ⟨rfl, hb1⟩
          have HB1 := Lib.hid (bstp HB.out hb1)
          clear hb1
          go_wp2_with fail
          go_roundw
          case rel => exact ⟨k + 1, by omega, by go_num, by rw [HL.out, HS.out], HB1.out⟩
          case measure => simp [intOf]; omega
    · obtain rfl : k = l.length := by omega
      go_wp2_with fail
      go_ret
      exact ⟨rfl, HB.out⟩
end Go.Proofs.YtnfdgioapbkonaaDoor

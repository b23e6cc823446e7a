/-
  The walks of the reference's ids and names, and of the set that it finds.
-/
import Derived.Test.YtfnamfkjbkhgeaaGreatDoorChsN
namespace Go.Proofs.YtfnamfkjbkhgeaaGreatDoor

open Go Go.RowKit

set_option maxRecDepth 100000 in
theorem refId_in : ∀ (k : Nat) (_h1 : 1 ≤ k) (_h2 : k ≤ 17) (w : World), Calls Tryz.prog 77 #[.int .i64 k] w fun e w' => e = .returned (.string (cIdP k)) ∧ w = w'
  | 0, h, _, _ => absurd h (by omega)
  | 1, _, _, w => by
    go_enter Tryz.func77, Tryz.ntmps77
    go_wp2_with fail
    go_ret
    exact ⟨rfl, rfl⟩
  | 2, _, _, w => by
    go_enter Tryz.func77, Tryz.ntmps77
    go_wp2_with fail
    go_ret
    exact ⟨rfl, rfl⟩
  | 3, _, _, w => by
    go_enter Tryz.func77, Tryz.ntmps77
    go_wp2_with fail
    go_ret
    exact ⟨rfl, rfl⟩
  | 4, _, _, w => by
    go_enter Tryz.func77, Tryz.ntmps77
    go_wp2_with fail
    go_ret
    exact ⟨rfl, rfl⟩
  | 5, _, _, w => by
    go_enter Tryz.func77, Tryz.ntmps77
    go_wp2_with fail
    go_ret
    exact ⟨rfl, rfl⟩
  | 6, _, _, w => by
    go_enter Tryz.func77, Tryz.ntmps77
    go_wp2_with fail
    go_ret
    exact ⟨rfl, rfl⟩
  | 7, _, _, w => by
    go_enter Tryz.func77, Tryz.ntmps77
    go_wp2_with fail
    go_ret
    exact ⟨rfl, rfl⟩
  | 8, _, _, w => by
    go_enter Tryz.func77, Tryz.ntmps77
    go_wp2_with fail
    go_ret
    exact ⟨rfl, rfl⟩
  | 9, _, _, w => by
    go_enter Tryz.func77, Tryz.ntmps77
    go_wp2_with fail
    go_ret
    exact ⟨rfl, rfl⟩
  | 10, _, _, w => by
    go_enter Tryz.func77, Tryz.ntmps77
    go_wp2_with fail
    go_ret
    exact ⟨rfl, rfl⟩
  | 11, _, _, w => by
    go_enter Tryz.func77, Tryz.ntmps77
    go_wp2_with fail
    go_ret
    exact ⟨rfl, rfl⟩
  | 12, _, _, w => by
    go_enter Tryz.func77, Tryz.ntmps77
    go_wp2_with fail
    go_ret
    exact ⟨rfl, rfl⟩
  | 13, _, _, w => by
    go_enter Tryz.func77, Tryz.ntmps77
    go_wp2_with fail
    go_ret
    exact ⟨rfl, rfl⟩
  | 14, _, _, w => by
    go_enter Tryz.func77, Tryz.ntmps77
    go_wp2_with fail
    go_ret
    exact ⟨rfl, rfl⟩
  | 15, _, _, w => by
    go_enter Tryz.func77, Tryz.ntmps77
    go_wp2_with fail
    go_ret
    exact ⟨rfl, rfl⟩
  | 16, _, _, w => by
    go_enter Tryz.func77, Tryz.ntmps77
    go_wp2_with fail
    go_ret
    exact ⟨rfl, rfl⟩
  | 17, _, _, w => by
    go_enter Tryz.func77, Tryz.ntmps77
    go_wp2_with fail
    go_ret
    exact ⟨rfl, rfl⟩
  | n + 18, _, h, _ => absurd h (by omega)
set_option maxRecDepth 100000 in
theorem cRefId_any (x : Int) (w : World) : Calls Tryz.prog 77 #[.int .i64 x] w fun e w' => e = .returned (.string (cIdP (setN x))) ∧ w = w' := by
  by_cases h : 1 ≤ x ∧ x ≤ 17
  · obtain ⟨e, h1, h2⟩ := setN_in x h
    have := refId_in (setN x) h1 h2 w
    rwa [e] at this
  · rw [setN_out x h]
    have n1 : (x == 1) = false := by rw [beq_eq_false_iff_ne]; omega
    have n2 : (x == 2) = false := by rw [beq_eq_false_iff_ne]; omega
    have n3 : (x == 3) = false := by rw [beq_eq_false_iff_ne]; omega
    have n4 : (x == 4) = false := by rw [beq_eq_false_iff_ne]; omega
    have n5 : (x == 5) = false := by rw [beq_eq_false_iff_ne]; omega
    have n6 : (x == 6) = false := by rw [beq_eq_false_iff_ne]; omega
    have n7 : (x == 7) = false := by rw [beq_eq_false_iff_ne]; omega
    have n8 : (x == 8) = false := by rw [beq_eq_false_iff_ne]; omega
    have n9 : (x == 9) = false := by rw [beq_eq_false_iff_ne]; omega
    have n10 : (x == 10) = false := by rw [beq_eq_false_iff_ne]; omega
    have n11 : (x == 11) = false := by rw [beq_eq_false_iff_ne]; omega
    have n12 : (x == 12) = false := by rw [beq_eq_false_iff_ne]; omega
    have n13 : (x == 13) = false := by rw [beq_eq_false_iff_ne]; omega
    have n14 : (x == 14) = false := by rw [beq_eq_false_iff_ne]; omega
    have n15 : (x == 15) = false := by rw [beq_eq_false_iff_ne]; omega
    have n16 : (x == 16) = false := by rw [beq_eq_false_iff_ne]; omega
    have n17 : (x == 17) = false := by rw [beq_eq_false_iff_ne]; omega
    clear h
    go_enter Tryz.func77, Tryz.ntmps77
    go_wp2_with fail
    go_ret
    exact ⟨rfl, rfl⟩


theorem wide_eq (k : Nat) (h : 1 ≤ k) (h2 : k ≤ 17) : ((k : Int) == 5) = wideP k := by
  unfold wideP
  by_cases e : k = 5
  · subst e; rfl
  · rw [show (k == 5) = false from by rw [beq_eq_false_iff_ne]; exact e, beq_eq_false_iff_ne]; omega
theorem refWide_any2 (x : Int) (w : World) :
    Calls Tryz.prog 76 #[.int .i64 x] w fun e w' => e = .returned (.bool (x == 5)) ∧ w = w' := by
  go_enter Tryz.func76, Tryz.ntmps76
  go_wp2_with fail
  go_ret
  exact ⟨rfl, rfl⟩
def fitP (wide : Bool) (id : ByteArray) (k : Nat) : Bool := (wideP k == wide) && ((cIdP k).toList == id.toList)
def otherP (id : ByteArray) : Nat := if (id.toList == [67]) = true then 8 else if (id.toList == [102]) = true then 9 else if (id.toList == [81]) = true then 10 else if (id.toList == [69]) = true then 13 else if (id.toList == [54]) = true then 13 else if (id.toList == [72]) = true then 16 else if (id.toList == [50]) = true then 2 else 0
def rfnP (wide : Bool) (id : ByteArray) : Nat := if fndP (fitP wide id) = 0 then (if wide = true then 0 else otherP id) else fndP (fitP wide id)
set_option maxRecDepth 100000 in
set_option maxHeartbeats 4000000 in
theorem refFind_any (wide : Bool) (id : ByteArray) (w : World) :
    Calls Tryz.prog 118 #[.bool wide, .string id] w fun e w' => e = .returned (.int .i64 (rfnP wide id)) ∧ w = w' := by
  have HId : Hid (∀ (k : Nat), 1 ≤ k → k ≤ 17 → ∀ W, Calls Tryz.prog 77 #[.int .i64 k] W fun e w' => e = .returned (.string (cIdP k)) ∧ W = w') := Lib.hid (fun k h1 h2 W => refId_in k h1 h2 W)
  have HW : Hid (∀ (k : Nat), 1 ≤ k → k ≤ 17 → ∀ W, Calls Tryz.prog 76 #[.int .i64 k] W fun e w' => e = .returned (.bool (wideP k)) ∧ W = w') := Lib.hid (fun k h1 h2 W => by
    have := refWide_any2 k W
    rwa [wide_eq k h1 h2] at this)
  have HN := Lib.hid (fnd_none (fitP wide id)); have HS := Lib.hid (fnd_some (fitP wide id))
  have HR0 : Hid (fndP (fitP wide id) = 0 → rfnP wide id = if wide = true then 0 else otherP id) := Lib.hid (fun h => by unfold rfnP; rw [if_pos h])
  have HR1 : Hid (∀ n, n ≠ 0 → fndP (fitP wide id) = n → rfnP wide id = n) := Lib.hid (fun n h0 h => by unfold rfnP; rw [h, if_neg h0])
  have HFt : Hid (∀ k, fitP wide id k = ((wideP k == wide) && ((cIdP k).toList == id.toList))) := Lib.hid (fun k => rfl)
  have HOt : Hid (otherP id = if (id.toList == [67]) = true then 8 else if (id.toList == [102]) = true then 9 else if (id.toList == [81]) = true then 10 else if (id.toList == [69]) = true then 13 else if (id.toList == [54]) = true then 13 else if (id.toList == [72]) = true then 16 else if (id.toList == [50]) = true then 2 else 0) := Lib.hid rfl
  generalize rfnP wide id = res at *
  generalize otherP id = oth at *
  generalize fitP wide id = ft at *
  generalize fndP ft = fn at *
  go_enter Tryz.func118, Tryz.ntmps118
  go_wp2_with fail
  go_loopw [5] (fun i wr => ∃ k : Nat, 1 ≤ k ∧ k ≤ 18 ∧ i = .int .i64 k ∧ wr = w ∧ ∀ j, 1 ≤ j → j < k → ft j = false) (fun i _ => 18 - (intOf i).toNat)
  case atStart => exact ⟨1, by omega, by omega, rfl, rfl, fun j h1 h2 => by omega⟩
  case round =>
    obtain ⟨k, hk1, hk2, rfl, rfl, hno⟩ := hrel
    have HNo := Lib.hid hno
    clear hno
    by_cases hlt : k < 18
    · have hd : decide ((k : Int) ≤ 17) = true := by simp; omega
      have HWk := Lib.hid (HW.out k hk1 (by omega)); have HIk := Lib.hid (HId.out k hk1 (by omega))
      have hw : IntKind.i64.wrap ((k : Int) + 1) = (k : Int) + 1 := IntWalk.i64_in _ (by omega)
      have hft := HFt.out k
      have HYes : Hid (ft k = true → res = k) := Lib.hid (fun h => HR1.out k (by omega) (HS.out k hk1 (by omega) h HNo.out))
      have HNo2 : Hid (ft k = false → ∀ j, 1 ≤ j → j < k + 1 → ft j = false) := Lib.hid (fun hf j h1 h2 => by
        by_cases ej : j = k
        · rw [ej]; exact hf
        · exact HNo.out j h1 (by omega))
      generalize wideP k = wd at *
      generalize cIdP k = ik at *
      rcases hq : (wd == wide) with _ | _
      · rw [hq, Bool.false_and] at hft
        have HNo3 := Lib.hid (HNo2.out hft)
        clear hft
        go_wp2_with fail
        refine (HWk.out _).mono ?_
        rintro e w1 ⟨rfl, rfl⟩
        go_wp2_with fail
        go_roundw
        case rel => exact ⟨k + 1, by omega, by omega, by first | rfl | go_num, by first | rfl | trivial, HNo3.out⟩
        case measure => simp [intOf]; omega
      · rw [hq, Bool.true_and] at hft
        rcases hi : (ik.toList == id.toList) with _ | _
        · rw [hi] at hft
          have HNo3 := Lib.hid (HNo2.out hft)
          clear hft
          go_wp2_with fail
          refine (HWk.out _).mono ?_
          rintro e w1 ⟨rfl, rfl⟩
          go_wp2_with fail
          refine (HIk.out _).mono ?_
          rintro e w1 ⟨rfl, rfl⟩
          go_wp2_with fail
          go_roundw
          case rel => exact ⟨k + 1, by omega, by omega, by first | rfl | go_num, by first | rfl | trivial, HNo3.out⟩
          case measure => simp [intOf]; omega
        · rw [hi] at hft
          have HR := Lib.hid (HYes.out hft)
          clear hft
          go_wp2_with fail
          refine (HWk.out _).mono ?_
          rintro e w1 ⟨rfl, rfl⟩
          go_wp2_with fail
          refine (HIk.out _).mono ?_
          rintro e w1 ⟨rfl, rfl⟩
          go_wp2_with fail
          go_ret
          exact ⟨ret_int (by rw [HR.out]), rfl⟩
    · obtain rfl : k = 18 := by omega
      have hr := HR0.out (HN.out (fun j h1 h2 => HNo.out j h1 (by omega)))
      cases wide with
      | true =>
        rw [if_pos rfl] at hr
        have HR := Lib.hid hr
        clear hr
        go_wp2_with fail
        go_ret
        exact ⟨ret_int (by rw [HR.out]; rfl), rfl⟩
      | false =>
        rw [if_neg (by simp), HOt.out] at hr
        have HR := Lib.hid hr
        clear hr
        rcases c0 : (id.toList == [67]) with _ | _
        rotate_left
        · have HV := HR.out
          rw [if_pos c0] at HV
          have HV2 := Lib.hid HV
          clear HV
          go_wp2_with fail
          go_ret
          exact ⟨ret_int (by rw [HV2.out]; rfl), rfl⟩
        · skip
          rcases c1 : (id.toList == [102]) with _ | _
          rotate_left
          · have HV := HR.out
            rw [if_neg (by rw [c0]; simp), if_pos c1] at HV
            have HV2 := Lib.hid HV
            clear HV
            go_wp2_with fail
            go_ret
            exact ⟨ret_int (by rw [HV2.out]; rfl), rfl⟩
          · skip
            rcases c2 : (id.toList == [81]) with _ | _
            rotate_left
            · have HV := HR.out
              rw [if_neg (by rw [c0]; simp), if_neg (by rw [c1]; simp), if_pos c2] at HV
              have HV2 := Lib.hid HV
              clear HV
              go_wp2_with fail
              go_ret
              exact ⟨ret_int (by rw [HV2.out]; rfl), rfl⟩
            · skip
              rcases c3 : (id.toList == [69]) with _ | _
              rotate_left
              · have HV := HR.out
                rw [if_neg (by rw [c0]; simp), if_neg (by rw [c1]; simp), if_neg (by rw [c2]; simp), if_pos c3] at HV
                have HV2 := Lib.hid HV
                clear HV
                go_wp2_with fail
                go_ret
                exact ⟨ret_int (by rw [HV2.out]; rfl), rfl⟩
              · skip
                rcases c4 : (id.toList == [54]) with _ | _
                rotate_left
                · have HV := HR.out
                  rw [if_neg (by rw [c0]; simp), if_neg (by rw [c1]; simp), if_neg (by rw [c2]; simp), if_neg (by rw [c3]; simp), if_pos c4] at HV
                  have HV2 := Lib.hid HV
                  clear HV
                  go_wp2_with fail
                  go_ret
                  exact ⟨ret_int (by rw [HV2.out]; rfl), rfl⟩
                · skip
                  rcases c5 : (id.toList == [72]) with _ | _
                  rotate_left
                  · have HV := HR.out
                    rw [if_neg (by rw [c0]; simp), if_neg (by rw [c1]; simp), if_neg (by rw [c2]; simp), if_neg (by rw [c3]; simp), if_neg (by rw [c4]; simp), if_pos c5] at HV
                    have HV2 := Lib.hid HV
                    clear HV
                    go_wp2_with fail
                    go_ret
                    exact ⟨ret_int (by rw [HV2.out]; rfl), rfl⟩
                  · skip
                    rcases c6 : (id.toList == [50]) with _ | _
                    rotate_left
                    · have HV := HR.out
                      rw [if_neg (by rw [c0]; simp), if_neg (by rw [c1]; simp), if_neg (by rw [c2]; simp), if_neg (by rw [c3]; simp), if_neg (by rw [c4]; simp), if_neg (by rw [c5]; simp), if_pos c6] at HV
                      have HV2 := Lib.hid HV
                      clear HV
                      go_wp2_with fail
                      go_ret
                      exact ⟨ret_int (by rw [HV2.out]; rfl), rfl⟩
                    · skip
                      have HV := HR.out
                      rw [if_neg (by rw [c0]; simp), if_neg (by rw [c1]; simp), if_neg (by rw [c2]; simp), if_neg (by rw [c3]; simp), if_neg (by rw [c4]; simp), if_neg (by rw [c5]; simp), if_neg (by rw [c6]; simp)] at HV
                      have HV2 := Lib.hid HV
                      clear HV
                      go_wp2_with fail
                      go_ret
                      exact ⟨ret_int (by rw [HV2.out]; rfl), rfl⟩
end Go.Proofs.YtfnamfkjbkhgeaaGreatDoor

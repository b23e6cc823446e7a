/-
  Tokens: what the reference says of bytes and of what begins a kind.
-/
import Derived.Test.YtmaklogelidjaaaDoorTokL
namespace Go.Proofs.YtmaklogelidjaaaDoor

open Go Go.RowKit

def dataB (n : Nat) : Bool := amongB n 8 13 || (amongB n 32 126 || decide (160 ≤ n))
theorem noData_eq (n : Nat) : noDataB n = !dataB n := by
  unfold noDataB dataB amongB
  rw [Bool.eq_iff_iff]
  simp
set_option maxHeartbeats 4000000 in
theorem refData_any (n : Nat) (w : World) : Calls Tryd.prog 20 #[.int .u8 (n : Int)] w fun e w' => e = .returned (.bool (dataB n)) ∧ w = w' := by
  have e1 : decide ((8 : Int) ≤ (n : Int)) = decide (8 ≤ n) := by simp; omega
  have e2 : decide ((n : Int) ≤ 13) = decide (n ≤ 13) := by simp; omega
  have e3 : decide ((32 : Int) ≤ (n : Int)) = decide (32 ≤ n) := by simp; omega
  have e4 : decide ((n : Int) ≤ 126) = decide (n ≤ 126) := by simp; omega
  have e5 : decide ((160 : Int) ≤ (n : Int)) = decide (160 ≤ n) := by simp; omega
  unfold dataB amongB
  generalize decide (8 ≤ n) = b1 at *
  generalize decide (n ≤ 13) = b2 at *
  generalize decide (32 ≤ n) = b3 at *
  generalize decide (n ≤ 126) = b4 at *
  generalize decide (160 ≤ n) = b5 at *
  rcases b1 with _ | _ <;> rcases b2 with _ | _ <;> rcases b3 with _ | _ <;> rcases b4 with _ | _ <;> rcases b5 with _ | _ <;>
    (go_enter Tryd.func20, Tryd.ntmps20
     go_wp2_with fail
     go_ret
     exact ⟨rfl, rfl⟩)
set_option maxHeartbeats 4000000 in
theorem begins_any (j : Nat) (h : 4 ≤ j ∧ j ≤ 9) (w : World) : Calls Tryd.prog 23 #[.int .i64 (j : Int)] w fun e w' => e = .returned (.int .u8 (begN (j : Int) : Nat)) ∧ w = w' := by
  have hs : j = 4 ∨ j = 5 ∨ j = 6 ∨ j = 7 ∨ j = 8 ∨ j = 9 := by omega
  rcases hs with rfl | rfl | rfl | rfl | rfl | rfl
  all_goals
    clear h
    go_enter Tryd.func23, Tryd.ntmps23
    go_wp2_with fail
    go_ret
    exact ⟨rfl, rfl⟩
/-- The kind that a byte behind an escape begins; 0: none. -/
def begunP (c : Nat) : Nat := if c = 91 then 4 else if c = 80 then 5 else if c = 93 then 6 else if c = 88 then 7 else if c = 94 then 8 else if c = 95 then 9 else 0
theorem begun_le (c : Nat) : begunP c ≤ 9 := by unfold begunP; repeat' split <;> try omega
theorem begun_leads (c : Nat) : leadsB c = ((begunP c != 0) || (c == 92)) := by
  unfold leadsB begunP
  rw [Bool.eq_iff_iff]
  simp
  repeat' split <;> try omega
theorem begun_ge (c : Nat) : begunP c = 0 ∨ 4 ≤ begunP c := by unfold begunP; repeat' split <;> try omega
set_option maxHeartbeats 4000000 in
theorem begun_any (c : Nat) (w : World) : Calls Tryd.prog 34 #[.int .u8 (c : Int)] w fun e w' => e = .returned (.int .i64 (begunP c : Nat)) ∧ w = w' := by
  have HBg := Lib.hid (fun j h W => begins_any j h W)
  have HIs : Hid (∀ (j n : Nat), (j = 4 ∧ n = 91) ∨ (j = 5 ∧ n = 80) ∨ (j = 6 ∧ n = 93) ∨ (j = 7 ∧ n = 88) ∨ (j = 8 ∧ n = 94) ∨ (j = 9 ∧ n = 95) → (c = n → begunP c = j) ∧ (c ≠ n → begunP c ≠ j)) := Lib.hid (by
    intro j n h
    unfold begunP
    constructor
    · rintro rfl
      rcases h with ⟨rfl, rfl⟩ | ⟨rfl, rfl⟩ | ⟨rfl, rfl⟩ | ⟨rfl, rfl⟩ | ⟨rfl, rfl⟩ | ⟨rfl, rfl⟩ <;> rfl
    · intro hn
      repeat' split
      all_goals omega)
  have HLe := Lib.hid (begun_le c)
  have HGe := Lib.hid (begun_ge c)
  generalize begunP c = r at *
  go_enter Tryd.func34, Tryd.ntmps34
  go_wp2_with fail
  go_loopw [3] (fun i wr => ∃ j : Nat, 4 ≤ j ∧ j ≤ 10 ∧ i = .int .i64 j ∧ (r = 0 ∨ j ≤ r) ∧ w = wr) (fun i _ => 10 - (intOf i).toNat)
  case atStart => exact ⟨4, by omega, by omega, rfl, HGe.out, rfl⟩
  case round =>
    obtain ⟨j, h4, h10, rfl, hr, rfl⟩ := hrel
    have HRr := Lib.hid hr
    clear hr
    by_cases hlt : j ≤ 9
    · have hs : j = 4 ∨ j = 5 ∨ j = 6 ∨ j = 7 ∨ j = 8 ∨ j = 9 := by omega
      clear h4 h10 hlt
      rcases hs with rfl | rfl | rfl | rfl | rfl | rfl
      · have HB : Hid (∀ W, Calls Tryd.prog 23 #[.int .i64 4] W fun e w' => e = .returned (.int .u8 91) ∧ W = w') := Lib.hid (fun W => HBg.out 4 (by omega) W)
        obtain ⟨y1, y2⟩ := HIs.out 4 91 (by simp)
        by_cases hc : c = 91
        · have hq : ((91 : Int) == (c : Int)) = true := by rw [hc]; rfl
          have HE := Lib.hid (y1 hc)
          clear hc y1 y2
          go_wp2_with fail
          refine (HB.out _).mono ?_
          rintro e w1 ⟨rfl, rfl⟩
          go_wp2_with fail
          go_ret
          exact ⟨by rw [HE.out]; rfl, rfl⟩
        · have hq : ((91 : Int) == (c : Int)) = false := by rw [beq_eq_false_iff_ne]; omega
          have HE := Lib.hid (y2 hc)
          clear hc y1 y2
          go_wp2_with fail
          refine (HB.out _).mono ?_
          rintro e w1 ⟨rfl, rfl⟩
          go_wp2_with fail
          go_roundw
          case rel => exact ⟨5, by omega, by omega, rfl, by have := HRr.out; have := HE.out; omega, trivial⟩
          case measure => simp [intOf]
      · have HB : Hid (∀ W, Calls Tryd.prog 23 #[.int .i64 5] W fun e w' => e = .returned (.int .u8 80) ∧ W = w') := Lib.hid (fun W => HBg.out 5 (by omega) W)
        obtain ⟨y1, y2⟩ := HIs.out 5 80 (by simp)
        by_cases hc : c = 80
        · have hq : ((80 : Int) == (c : Int)) = true := by rw [hc]; rfl
          have HE := Lib.hid (y1 hc)
          clear hc y1 y2
          go_wp2_with fail
          refine (HB.out _).mono ?_
          rintro e w1 ⟨rfl, rfl⟩
          go_wp2_with fail
          go_ret
          exact ⟨by rw [HE.out]; rfl, rfl⟩
        · have hq : ((80 : Int) == (c : Int)) = false := by rw [beq_eq_false_iff_ne]; omega
          have HE := Lib.hid (y2 hc)
          clear hc y1 y2
          go_wp2_with fail
          refine (HB.out _).mono ?_
          rintro e w1 ⟨rfl, rfl⟩
          go_wp2_with fail
          go_roundw
          case rel => exact ⟨6, by omega, by omega, rfl, by have := HRr.out; have := HE.out; omega, trivial⟩
          case measure => simp [intOf]
      · have HB : Hid (∀ W, Calls Tryd.prog 23 #[.int .i64 6] W fun e w' => e = .returned (.int .u8 93) ∧ W = w') := Lib.hid (fun W => HBg.out 6 (by omega) W)
        obtain ⟨y1, y2⟩ := HIs.out 6 93 (by simp)
        by_cases hc : c = 93
        · have hq : ((93 : Int) == (c : Int)) = true := by rw [hc]; rfl
          have HE := Lib.hid (y1 hc)
          clear hc y1 y2
          go_wp2_with fail
          refine (HB.out _).mono ?_
          rintro e w1 ⟨rfl, rfl⟩
          go_wp2_with fail
          go_ret
          exact ⟨by rw [HE.out]; rfl, rfl⟩
        · have hq : ((93 : Int) == (c : Int)) = false := by rw [beq_eq_false_iff_ne]; omega
          have HE := Lib.hid (y2 hc)
          clear hc y1 y2
          go_wp2_with fail
          refine (HB.out _).mono ?_
          rintro e w1 ⟨rfl, rfl⟩
          go_wp2_with fail
          go_roundw
          case rel => exact ⟨7, by omega, by omega, rfl, by have := HRr.out; have := HE.out; omega, trivial⟩
          case measure => simp [intOf]
      · have HB : Hid (∀ W, Calls Tryd.prog 23 #[.int .i64 7] W fun e w' => e = .returned (.int .u8 88) ∧ W = w') := Lib.hid (fun W => HBg.out 7 (by omega) W)
        obtain ⟨y1, y2⟩ := HIs.out 7 88 (by simp)
        by_cases hc : c = 88
        · have hq : ((88 : Int) == (c : Int)) = true := by rw [hc]; rfl
          have HE := Lib.hid (y1 hc)
          clear hc y1 y2
          go_wp2_with fail
          refine (HB.out _).mono ?_
          rintro e w1 ⟨rfl, rfl⟩
          go_wp2_with fail
          go_ret
          exact ⟨by rw [HE.out]; rfl, rfl⟩
        · have hq : ((88 : Int) == (c : Int)) = false := by rw [beq_eq_false_iff_ne]; omega
          have HE := Lib.hid (y2 hc)
          clear hc y1 y2
          go_wp2_with fail
          refine (HB.out _).mono ?_
          rintro e w1 ⟨rfl, rfl⟩
          go_wp2_with fail
          go_roundw
          case rel => exact ⟨8, by omega, by omega, rfl, by have := HRr.out; have := HE.out; omega, trivial⟩
          case measure => simp [intOf]
      · have HB : Hid (∀ W, Calls Tryd.prog 23 #[.int .i64 8] W fun e w' => e = .returned (.int .u8 94) ∧ W = w') := Lib.hid (fun W => HBg.out 8 (by omega) W)
        obtain ⟨y1, y2⟩ := HIs.out 8 94 (by simp)
        by_cases hc : c = 94
        · have hq : ((94 : Int) == (c : Int)) = true := by rw [hc]; rfl
          have HE := Lib.hid (y1 hc)
          clear hc y1 y2
          go_wp2_with fail
          refine (HB.out _).mono ?_
          rintro e w1 ⟨rfl, rfl⟩
          go_wp2_with fail
          go_ret
          exact ⟨by rw [HE.out]; rfl, rfl⟩
        · have hq : ((94 : Int) == (c : Int)) = false := by rw [beq_eq_false_iff_ne]; omega
          have HE := Lib.hid (y2 hc)
          clear hc y1 y2
          go_wp2_with fail
          refine (HB.out _).mono ?_
          rintro e w1 ⟨rfl, rfl⟩
          go_wp2_with fail
          go_roundw
          case rel => exact ⟨9, by omega, by omega, rfl, by have := HRr.out; have := HE.out; omega, trivial⟩
          case measure => simp [intOf]
      · have HB : Hid (∀ W, Calls Tryd.prog 23 #[.int .i64 9] W fun e w' => e = .returned (.int .u8 95) ∧ W = w') := Lib.hid (fun W => HBg.out 9 (by omega) W)
        obtain ⟨y1, y2⟩ := HIs.out 9 95 (by simp)
        by_cases hc : c = 95
        · have hq : ((95 : Int) == (c : Int)) = true := by rw [hc]; rfl
          have HE := Lib.hid (y1 hc)
          clear hc y1 y2
          go_wp2_with fail
          refine (HB.out _).mono ?_
          rintro e w1 ⟨rfl, rfl⟩
          go_wp2_with fail
          go_ret
          exact ⟨by rw [HE.out]; rfl, rfl⟩
        · have hq : ((95 : Int) == (c : Int)) = false := by rw [beq_eq_false_iff_ne]; omega
          have HE := Lib.hid (y2 hc)
          clear hc y1 y2
          go_wp2_with fail
          refine (HB.out _).mono ?_
          rintro e w1 ⟨rfl, rfl⟩
          go_wp2_with fail
          go_roundw
          case rel => exact ⟨10, by omega, by omega, rfl, by have := HRr.out; have := HE.out; omega, trivial⟩
          case measure => simp [intOf]
    · obtain rfl : j = 10 := by omega
      have HE : Hid (r = 0) := Lib.hid (by have := HRr.out; have := HLe.out; omega)
      clear hlt h4 h10
      go_wp2_with fail
      go_ret
      exact ⟨by rw [HE.out]; rfl, rfl⟩
end Go.Proofs.YtmaklogelidjaaaDoor

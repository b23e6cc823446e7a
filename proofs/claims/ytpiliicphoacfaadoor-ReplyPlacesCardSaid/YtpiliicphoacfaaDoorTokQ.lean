/-
  Tokens: what the reference says of bytes and of what begins a kind.
  Tokens: the reference's check.
  Tokens: what the reference's check answers.
  Tokens: both checks answer the same. Plain facts.
  Tokens: the fixed fact; one told as the document's.
-/
import Derived.Test.YtpiliicphoacfaaDoorTokL
namespace Go.Proofs.YtpiliicphoacfaaDoor

open Go Go.RowKit

def dataB (n : Nat) : Bool := amongB n 8 13 || (amongB n 32 126 || decide (160 ≤ n))
theorem noData_eq (n : Nat) : noDataB n = !dataB n := by
  unfold noDataB dataB amongB
  rw [Bool.eq_iff_iff]
  simp
set_option maxHeartbeats 4000000 in
theorem refData_any (n : Nat) (w : World) : Calls Tryd.prog 24 #[.int .u8 (n : Int)] w fun e w' => e = .returned (.bool (dataB n)) ∧ w = w' := by
  have e1 : decide ((8 : Int) ≤ (n : Int)) = decide (8 ≤ n) := by simp; omega
  have e2 : decide ((n : Int) ≤ 13) = decide (n ≤ 13) := by simp; omega
  have e3 : decide ((32 : Int) ≤ (n : Int)) = decide (32 ≤ n) := by simp; omega
  have e4 : decide ((n : Int) ≤ 126) = decide (n ≤ 126) := by simp; omega
  have e5 : decide ((160 : Int) ≤ (n : Int)) = decide (160 ≤ n) := by simp; omega
  unfold dataB amongB
  generalize decide (8 ≤ n) = b1 at *
  generalize decide (n ≤ 13) = b2 at *
  generalize decide (32 ≤ n) = b3 at *
  generalize decide (n ≤ 126) = b4 at *
  generalize decide (160 ≤ n) = b5 at *
  rcases b1 with _ | _ <;> rcases b2 with _ | _ <;> rcases b3 with _ | _ <;> rcases b4 with _ | _ <;> rcases b5 with _ | _ <;>
    (go_enter Tryd.func24, Tryd.ntmps24
     go_wp2_with fail
     go_ret
     exact ⟨rfl, rfl⟩)
set_option maxHeartbeats 4000000 in
theorem begins_any (j : Nat) (h : 4 ≤ j ∧ j ≤ 9) (w : World) : Calls Tryd.prog 65 #[.int .i64 (j : Int)] w fun e w' => e = .returned (.int .u8 (begN (j : Int) : Nat)) ∧ w = w' := by
  have hs : j = 4 ∨ j = 5 ∨ j = 6 ∨ j = 7 ∨ j = 8 ∨ j = 9 := by omega
  rcases hs with rfl | rfl | rfl | rfl | rfl | rfl
  all_goals
    clear h
    go_enter Tryd.func65, Tryd.ntmps65
    go_wp2_with fail
    go_ret
    exact ⟨rfl, rfl⟩
/-- The kind that a byte behind an escape begins; 0: none. -/
def begunP (c : Nat) : Nat := if c = 91 then 4 else if c = 80 then 5 else if c = 93 then 6 else if c = 88 then 7 else if c = 94 then 8 else if c = 95 then 9 else 0
theorem begun_le (c : Nat) : begunP c ≤ 9 := by unfold begunP; repeat' split <;> try omega
theorem begun_leads (c : Nat) : leadsB c = ((begunP c != 0) || (c == 92)) := by
  unfold leadsB begunP
  rw [Bool.eq_iff_iff]
  simp
  repeat' split <;> try omega
theorem begun_ge (c : Nat) : begunP c = 0 ∨ 4 ≤ begunP c := by unfold begunP; repeat' split <;> try omega
set_option maxHeartbeats 4000000 in
theorem begun_any (c : Nat) (w : World) : Calls Tryd.prog 43 #[.int .u8 (c : Int)] w fun e w' => e = .returned (.int .i64 (begunP c : Nat)) ∧ w = w' := by
  have HBg := Lib.hid (fun j h W => begins_any j h W)
  have HIs : Hid (∀ (j n : Nat), (j = 4 ∧ n = 91) ∨ (j = 5 ∧ n = 80) ∨ (j = 6 ∧ n = 93) ∨ (j = 7 ∧ n = 88) ∨ (j = 8 ∧ n = 94) ∨ (j = 9 ∧ n = 95) → (c = n → begunP c = j) ∧ (c ≠ n → begunP c ≠ j)) := Lib.hid (by
    intro j n h
    unfold begunP
    constructor
    · rintro rfl
      rcases h with ⟨rfl, rfl⟩ | ⟨rfl, rfl⟩ | ⟨rfl, rfl⟩ | ⟨rfl, rfl⟩ | ⟨rfl, rfl⟩ | ⟨rfl, rfl⟩ <;> rfl
    · intro hn
      repeat' split
      all_goals omega)
  have HLe := Lib.hid (begun_le c)
  have HGe := Lib.hid (begun_ge c)
  generalize begunP c = r at *
  go_enter Tryd.func43, Tryd.ntmps43
  go_wp2_with fail
  go_loopw [3] (fun i wr => ∃ j : Nat, 4 ≤ j ∧ j ≤ 10 ∧ i = .int .i64 j ∧ (r = 0 ∨ j ≤ r) ∧ w = wr) (fun i _ => 10 - (intOf i).toNat)
  case atStart => exact ⟨4, by omega, by omega, rfl, HGe.out, rfl⟩
  case round =>
    obtain ⟨j, h4, h10, rfl, hr, rfl⟩ := hrel
    have HRr := Lib.hid hr
    clear hr
    by_cases hlt : j ≤ 9
    · have hs : j = 4 ∨ j = 5 ∨ j = 6 ∨ j = 7 ∨ j = 8 ∨ j = 9 := by omega
      clear h4 h10 hlt
      rcases hs with rfl | rfl | rfl | rfl | rfl | rfl
      · have HB : Hid (∀ W, Calls Tryd.prog 65 #[.int .i64 4] W fun e w' => e = .returned (.int .u8 91) ∧ W = w') := Lib.hid (fun W => HBg.out 4 (by omega) W)
        obtain ⟨y1, y2⟩ := HIs.out 4 91 (by simp)
        by_cases hc : c = 91
        · have hq : ((91 : Int) == (c : Int)) = true := by rw [hc]; rfl
          have HE := Lib.hid (y1 hc)
          clear hc y1 y2
          go_wp2_with fail
          refine (HB.out _).mono ?_
          rintro e w1 ⟨rfl, rfl⟩
          go_wp2_with fail
          go_ret
          exact ⟨by rw [HE.out]; rfl, rfl⟩
        · have hq : ((91 : Int) == (c : Int)) = false := by rw [beq_eq_false_iff_ne]; omega
          have HE := Lib.hid (y2 hc)
          clear hc y1 y2
          go_wp2_with fail
          refine (HB.out _).mono ?_
          rintro e w1 ⟨rfl, rfl⟩
          go_wp2_with fail
          go_roundw
          case rel => exact ⟨5, by omega, by omega, rfl, by have := HRr.out; have := HE.out; omega, trivial⟩
          case measure => simp [intOf]
      · have HB : Hid (∀ W, Calls Tryd.prog 65 #[.int .i64 5] W fun e w' => e = .returned (.int .u8 80) ∧ W = w') := Lib.hid (fun W => HBg.out 5 (by omega) W)
        obtain ⟨y1, y2⟩ := HIs.out 5 80 (by simp)
        by_cases hc : c = 80
        · have hq : ((80 : Int) == (c : Int)) = true := by rw [hc]; rfl
          have HE := Lib.hid (y1 hc)
          clear hc y1 y2
          go_wp2_with fail
          refine (HB.out _).mono ?_
          rintro e w1 ⟨rfl, rfl⟩
          go_wp2_with fail
          go_ret
          exact ⟨by rw [HE.out]; rfl, rfl⟩
        · have hq : ((80 : Int) == (c : Int)) = false := by rw [beq_eq_false_iff_ne]; omega
          have HE := Lib.hid (y2 hc)
          clear hc y1 y2
          go_wp2_with fail
          refine (HB.out _).mono ?_
          rintro e w1 ⟨rfl, rfl⟩
          go_wp2_with fail
          go_roundw
          case rel => exact ⟨6, by omega, by omega, rfl, by have := HRr.out; have := HE.out; omega, trivial⟩
          case measure => simp [intOf]
      · have HB : Hid (∀ W, Calls Tryd.prog 65 #[.int .i64 6] W fun e w' => e = .returned (.int .u8 93) ∧ W = w') := Lib.hid (fun W => HBg.out 6 (by omega) W)
        obtain ⟨y1, y2⟩ := HIs.out 6 93 (by simp)
        by_cases hc : c = 93
        · have hq : ((93 : Int) == (c : Int)) = true := by rw [hc]; rfl
          have HE := Lib.hid (y1 hc)
          clear hc y1 y2
          go_wp2_with fail
          refine (HB.out _).mono ?_
          rintro e w1 ⟨rfl, rfl⟩
          go_wp2_with fail
          go_ret
          exact ⟨by rw [HE.out]; rfl, rfl⟩
        · have hq : ((93 : Int) == (c : Int)) = false := by rw [beq_eq_false_iff_ne]; omega
          have HE := Lib.hid (y2 hc)
          clear hc y1 y2
          go_wp2_with fail
          refine (HB.out _).mono ?_
          rintro e w1 ⟨rfl, rfl⟩
          go_wp2_with fail
          go_roundw
          case rel => exact ⟨7, by omega, by omega, rfl, by have := HRr.out; have := HE.out; omega, trivial⟩
          case measure => simp [intOf]
      · have HB : Hid (∀ W, Calls Tryd.prog 65 #[.int .i64 7] W fun e w' => e = .returned (.int .u8 88) ∧ W = w') := Lib.hid (fun W => HBg.out 7 (by omega) W)
        obtain ⟨y1, y2⟩ := HIs.out 7 88 (by simp)
        by_cases hc : c = 88
        · have hq : ((88 : Int) == (c : Int)) = true := by rw [hc]; rfl
          have HE := Lib.hid (y1 hc)
          clear hc y1 y2
          go_wp2_with fail
          refine (HB.out _).mono ?_
          rintro e w1 ⟨rfl, rfl⟩
          go_wp2_with fail
          go_ret
          exact ⟨by rw [HE.out]; rfl, rfl⟩
        · have hq : ((88 : Int) == (c : Int)) = false := by rw [beq_eq_false_iff_ne]; omega
          have HE := Lib.hid (y2 hc)
          clear hc y1 y2
          go_wp2_with fail
          refine (HB.out _).mono ?_
          rintro e w1 ⟨rfl, rfl⟩
          go_wp2_with fail
          go_roundw
          case rel => exact ⟨8, by omega, by omega, rfl, by have := HRr.out; have := HE.out; omega, trivial⟩
          case measure => simp [intOf]
      · have HB : Hid (∀ W, Calls Tryd.prog 65 #[.int .i64 8] W fun e w' => e = .returned (.int .u8 94) ∧ W = w') := Lib.hid (fun W => HBg.out 8 (by omega) W)
        obtain ⟨y1, y2⟩ := HIs.out 8 94 (by simp)
        by_cases hc : c = 94
        · have hq : ((94 : Int) == (c : Int)) = true := by rw [hc]; rfl
          have HE := Lib.hid (y1 hc)
          clear hc y1 y2
          go_wp2_with fail
          refine (HB.out _).mono ?_
          rintro e w1 ⟨rfl, rfl⟩
          go_wp2_with fail
          go_ret
          exact ⟨by rw [HE.out]; rfl, rfl⟩
        · have hq : ((94 : Int) == (c : Int)) = false := by rw [beq_eq_false_iff_ne]; omega
          have HE := Lib.hid (y2 hc)
          clear hc y1 y2
          go_wp2_with fail
          refine (HB.out _).mono ?_
          rintro e w1 ⟨rfl, rfl⟩
          go_wp2_with fail
          go_roundw
          case rel => exact ⟨9, by omega, by omega, rfl, by have := HRr.out; have := HE.out; omega, trivial⟩
          case measure => simp [intOf]
      · have HB : Hid (∀ W, Calls Tryd.prog 65 #[.int .i64 9] W fun e w' => e = .returned (.int .u8 95) ∧ W = w') := Lib.hid (fun W => HBg.out 9 (by omega) W)
        obtain ⟨y1, y2⟩ := HIs.out 9 95 (by simp)
        by_cases hc : c = 95
        · have hq : ((95 : Int) == (c : Int)) = true := by rw [hc]; rfl
          have HE := Lib.hid (y1 hc)
          clear hc y1 y2
          go_wp2_with fail
          refine (HB.out _).mono ?_
          rintro e w1 ⟨rfl, rfl⟩
          go_wp2_with fail
          go_ret
          exact ⟨by rw [HE.out]; rfl, rfl⟩
        · have hq : ((95 : Int) == (c : Int)) = false := by rw [beq_eq_false_iff_ne]; omega
          have HE := Lib.hid (y2 hc)
          clear hc y1 y2
          go_wp2_with fail
          refine (HB.out _).mono ?_
          rintro e w1 ⟨rfl, rfl⟩
          go_wp2_with fail
          go_roundw
          case rel => exact ⟨10, by omega, by omega, rfl, by have := HRr.out; have := HE.out; omega, trivial⟩
          case measure => simp [intOf]
    · obtain rfl : j = 10 := by omega
      have HE : Hid (r = 0) := Lib.hid (by have := HRr.out; have := HLe.out; omega)
      clear hlt h4 h10
      go_wp2_with fail
      go_ret
      exact ⟨by rw [HE.out]; rfl, rfl⟩
end Go.Proofs.YtpiliicphoacfaaDoor

namespace Go.Proofs.YtpiliicphoacfaaDoor

open Go Go.RowKit

def codeQ (k : Int) (c : Nat) (s : ByteArray) : Bool :=
  if k = 1 then amongB c 32 126 || decide (160 ≤ c)
  else if k = 2 then amongB c 1 31 && ((c != 24) && (c != 27))
  else if k = 3 then (if decide (s.size = 0) && ((begunP c != 0) || (c == 92)) then false else amongB c 48 126)
  else if k = 4 ∨ k = 5 then amongB c 64 126
  else c == 0
theorem code_same (k : Int) (c : Nat) (s : ByteArray) : codeQ k c s = if k = 1 ∨ k = 2 ∨ k = 3 ∨ k = 4 ∨ k = 5 then codedB k c s else c == 0 := by
  unfold codeQ codedB
  by_cases k1 : k = 1
  · subst k1; rfl
  · by_cases k2 : k = 2
    · subst k2; rfl
    · by_cases k3 : k = 3
      · subst k3
        show (if (decide (s.size = 0) && ((begunP c != 0) || (c == 92))) = true then false else amongB c 48 126) = (amongB c 48 126 && (!decide (s.size = 0) || !leadsB c))
        rw [begun_leads]
        cases decide (s.size = 0) <;> cases (begunP c != 0) <;> cases (c == 92) <;> cases amongB c 48 126 <;> rfl
      · by_cases k4 : k = 4 ∨ k = 5
        · rw [if_neg k1, if_neg k2, if_neg k3, if_pos k4, if_pos (by omega), if_neg k1, if_neg k2, if_neg k3, if_pos k4]
        · rw [if_neg k1, if_neg k2, if_neg k3, if_neg k4, if_neg (by omega)]
theorem le_lit (a : Nat) (n : Nat) : decide ((a : Int) ≤ (n : Int)) = decide (a ≤ n) := by simp
set_option maxRecDepth 100000 in
set_option maxHeartbeats 8000000 in
theorem refCode_any (k : Int) (c m : Nat) (P : Option Addr) (ps : List Int) (pc : Nat) (s : ByteArray) (D : Option Addr) (dt : List Nat) (dc : Nat) (w : World) :
    Calls Tryd.prog 25 #[.agg (tkC k (c : Int) (m : Int) P ps pc s D dt dc)] w fun e w' => e = .returned (.bool (codeQ k c s)) ∧ Below w.heap.size w w' := by
  have HBg := Lib.hid (fun W => begun_any c W)
  have HK := Lib.hid (K1.start w 31 (tkC k (c : Int) (m : Int) P ps pc s D dt dc))
  have e1 : decide ((1 : Int) ≤ (c : Int)) = decide (1 ≤ c) := le_lit 1 c
  have e31 : decide ((c : Int) ≤ 31) = decide (c ≤ 31) := le_lit c 31
  have e32 : decide ((32 : Int) ≤ (c : Int)) = decide (32 ≤ c) := le_lit 32 c
  have e48 : decide ((48 : Int) ≤ (c : Int)) = decide (48 ≤ c) := le_lit 48 c
  have e64 : decide ((64 : Int) ≤ (c : Int)) = decide (64 ≤ c) := le_lit 64 c
  have e126 : decide ((c : Int) ≤ 126) = decide (c ≤ 126) := le_lit c 126
  have e160 : decide ((160 : Int) ≤ (c : Int)) = decide (160 ≤ c) := le_lit 160 c
  have e24 : ((c : Int) != 24) = (c != 24) := by rw [Bool.eq_iff_iff, bne_iff_ne, bne_iff_ne]; omega
  have e27 : ((c : Int) != 27) = (c != 27) := by rw [Bool.eq_iff_iff, bne_iff_ne, bne_iff_ne]; omega
  have e92 : ((c : Int) == 92) = (c == 92) := by rw [Bool.eq_iff_iff, beq_iff_eq, beq_iff_eq]; omega
  have e0 : ((c : Int) == 0) = (c == 0) := by rw [Bool.eq_iff_iff, beq_iff_eq, beq_iff_eq]; omega
  have eb : ((begunP c : Int) != 0) = (begunP c != 0) := by rw [Bool.eq_iff_iff, bne_iff_ne, bne_iff_ne]; omega
  unfold codeQ amongB
  unfold tkC at *
  generalize decide (1 ≤ c) = b1 at *
  generalize decide (c ≤ 31) = b31 at *
  generalize decide (32 ≤ c) = b32 at *
  generalize decide (48 ≤ c) = b48 at *
  generalize decide (64 ≤ c) = b64 at *
  generalize decide (c ≤ 126) = b126 at *
  generalize decide (160 ≤ c) = b160 at *
  generalize (c != 24) = n24 at *
  generalize (c != 27) = n27 at *
  generalize (c == 92) = n92 at *
  generalize (c == 0) = n0 at *
  generalize (begunP c != 0) = nb at *
  generalize begunP c = bg at *
  by_cases k1 : k = 1
  · subst k1; rw [if_pos rfl]; clear HBg
    rcases b32 with _ | _ <;> rcases b126 with _ | _ <;> rcases b160 with _ | _ <;>
      (go_enter Tryd.func25, Tryd.ntmps25
       go_upto_region 1 with fail
       generalize w.alloc (.cells #[.int .i64 1, .int .u8 (c : Int), .int .u8 (m : Int), .slice P ps.length pc, .string s, .slice D dt.length dc] 31) = w1 at *
       obtain ⟨a0, a1, a2, a3, a4, a5⟩ := six HK.out.1
       go_wp2_with fail
       go_ret
       exact ⟨rfl, HK.out.2⟩)
  by_cases k2 : k = 2
  · subst k2; rw [if_neg (by omega), if_pos rfl]; clear HBg
    rcases b1 with _ | _ <;> rcases b31 with _ | _ <;> rcases n24 with _ | _ <;> rcases n27 with _ | _ <;>
      (go_enter Tryd.func25, Tryd.ntmps25
       go_upto_region 1 with fail
       generalize w.alloc (.cells #[.int .i64 2, .int .u8 (c : Int), .int .u8 (m : Int), .slice P ps.length pc, .string s, .slice D dt.length dc] 31) = w1 at *
       obtain ⟨a0, a1, a2, a3, a4, a5⟩ := six HK.out.1
       go_wp2_with fail
       go_ret
       exact ⟨rfl, HK.out.2⟩)
  by_cases k3 : k = 3
  · subst k3; rw [if_neg (by omega), if_neg (by omega), if_pos rfl]
    by_cases hs : s.size = 0
    · rw [decide_eq_true hs]
      have hnil : s.toList = [] := by rw [ByteArray.toList_eq]; exact List.length_eq_zero_iff.1 hs
      clear hs
      rcases nb with _ | _ <;> rcases n92 with _ | _ <;> rcases b48 with _ | _ <;> rcases b126 with _ | _ <;>
        (go_enter Tryd.func25, Tryd.ntmps25
         go_upto_region 1 with fail
         generalize w.alloc (.cells #[.int .i64 3, .int .u8 (c : Int), .int .u8 (m : Int), .slice P ps.length pc, .string s, .slice D dt.length dc] 31) = w1 at *
         obtain ⟨a0, a1, a2, a3, a4, a5⟩ := six HK.out.1
         go_wp2_with fail
         refine (HBg.out _).mono ?_
         rintro e w2 ⟨rfl, rfl⟩
         go_wp2_with fail
         go_ret
         exact ⟨rfl, HK.out.2⟩)
    · rw [decide_eq_false hs]
      have hnil2 : s.toList.isEmpty = false := by rw [ByteArray.toList_eq]; cases h : s.data.toList with | nil => exact absurd (by rw [← dlen, h]; rfl) hs | cons a b => rfl
      have hnil : (s.toList == []) = false := by cases h : s.toList with | nil => rw [h] at hnil2; cases hnil2 | cons a b => rfl
      clear hs HBg
      rcases b48 with _ | _ <;> rcases b126 with _ | _ <;>
        (go_enter Tryd.func25, Tryd.ntmps25
         go_upto_region 1 with fail
         generalize w.alloc (.cells #[.int .i64 3, .int .u8 (c : Int), .int .u8 (m : Int), .slice P ps.length pc, .string s, .slice D dt.length dc] 31) = w1 at *
         obtain ⟨a0, a1, a2, a3, a4, a5⟩ := six HK.out.1
         go_wp2_with fail
         go_ret
         exact ⟨rfl, HK.out.2⟩)
  by_cases k4 : k = 4
  · subst k4; rw [if_neg (by omega), if_neg (by omega), if_neg (by omega), if_pos (.inl rfl)]; clear HBg
    rcases b64 with _ | _ <;> rcases b126 with _ | _ <;>
      (go_enter Tryd.func25, Tryd.ntmps25
       go_upto_region 1 with fail
       generalize w.alloc (.cells #[.int .i64 4, .int .u8 (c : Int), .int .u8 (m : Int), .slice P ps.length pc, .string s, .slice D dt.length dc] 31) = w1 at *
       obtain ⟨a0, a1, a2, a3, a4, a5⟩ := six HK.out.1
       go_wp2_with fail
       go_ret
       exact ⟨rfl, HK.out.2⟩)
  by_cases k5 : k = 5
  · subst k5; rw [if_neg (by omega), if_neg (by omega), if_neg (by omega), if_pos (.inr rfl)]; clear HBg
    rcases b64 with _ | _ <;> rcases b126 with _ | _ <;>
      (go_enter Tryd.func25, Tryd.ntmps25
       go_upto_region 1 with fail
       generalize w.alloc (.cells #[.int .i64 5, .int .u8 (c : Int), .int .u8 (m : Int), .slice P ps.length pc, .string s, .slice D dt.length dc] 31) = w1 at *
       obtain ⟨a0, a1, a2, a3, a4, a5⟩ := six HK.out.1
       go_wp2_with fail
       go_ret
       exact ⟨rfl, HK.out.2⟩)
  rw [if_neg k1, if_neg k2, if_neg k3, if_neg (by omega)]
  have m1 : (k == 1) = false := by simpa using k1
  have m2 : (k == 2) = false := by simpa using k2
  have m3 : (k == 3) = false := by simpa using k3
  have m4 : (k == 4) = false := by simpa using k4
  have m5 : (k == 5) = false := by simpa using k5
  clear k1 k2 k3 k4 k5 HBg
  go_enter Tryd.func25, Tryd.ntmps25
  go_upto_region 1 with fail
  generalize w.alloc (.cells #[.int .i64 k, .int .u8 (c : Int), .int .u8 (m : Int), .slice P ps.length pc, .string s, .slice D dt.length dc] 31) = w1 at *
  obtain ⟨a0, a1, a2, a3, a4, a5⟩ := six HK.out.1
  go_wp2_with fail
  go_ret
  exact ⟨rfl, HK.out.2⟩
end Go.Proofs.YtpiliicphoacfaaDoor

namespace Go.Proofs.YtpiliicphoacfaaDoor

open Go Go.RowKit

def rngB (n : Int) : Bool := !decide (n < 0) && !decide (65535 < n)
def pick8 (bK bS qr qi qd qc bM bL : Bool) : Int := if bK then 1 else if bS then 2 else if !qr then 2 else if !qi then 3 else if !qd then 3 else if !qc then 3 else if bM then 3 else if bL then 3 else 0
def lateB (k : Int) (m : Nat) (ps : List Int) (s : ByteArray) (dt : List Nat) : Bool :=
  (!((k == 4) || (k == 5)) && ((m != 0) || decide (0 < ps.length))) || ((!((k == 4) || (k == 5)) && ((k != 3) && !(decide (s.size = 0)))) || (decide (k < 5) && decide (0 < dt.length)))
def refChkP (k : Int) (c m : Nat) (ps : List Int) (s : ByteArray) (dt : List Nat) : Int :=
  pick8 (decide (k < 1) || decide (9 < k)) (decide (3 < s.size) || (decide (30 < ps.length) || decide (4096 < dt.length))) (ps.all rngB) (s.data.toList.all interB) (dt.all dataB) (codeQ k c s) ((m != 0) && (decide (m < 60) || decide (63 < m))) (lateB k m ps s dt)
theorem allR_step {ps : List Int} {j : Nat} (hj : j < ps.length) (h : (ps.take j).all rngB = true) : (rngB ps[j] = true → (ps.take (j + 1)).all rngB = true) ∧ (rngB ps[j] = false → ps.all rngB = false) := by
  constructor
  · intro hi
    rw [take_snoc _ j hj, List.all_append, h]
    simp [hi]
  · intro hi
    rcases he : ps.all rngB with _ | _
    · rfl
    · have := List.all_eq_true.1 he _ (List.getElem_mem hj)
      rw [hi] at this
      cases this
theorem allD_step {ps : List Nat} {j : Nat} (hj : j < ps.length) (h : (ps.take j).all dataB = true) : (dataB ps[j] = true → (ps.take (j + 1)).all dataB = true) ∧ (dataB ps[j] = false → ps.all dataB = false) := by
  constructor
  · intro hi
    rw [take_snoc _ j hj, List.all_append, h]
    simp [hi]
  · intro hi
    rcases he : ps.all dataB with _ | _
    · rfl
    · have := List.all_eq_true.1 he _ (List.getElem_mem hj)
      rw [hi] at this
      cases this
theorem lt_lit (a n : Nat) : decide ((a : Int) < (n : Int)) = decide (a < n) := by simp
set_option maxRecDepth 100000 in
set_option maxHeartbeats 32000000 in
theorem refCheck_any (k : Int) (c m : Nat) (P : Option Addr) (ps : List Int) (pc : Nat) (s : ByteArray) (D : Option Addr) (dt : List Nat) (dc : Nat) (hsz : s.size ≤ maxLen) (hp : ps.length ≤ maxLen) (hd : dt.length ≤ maxLen) (w : World) (hr : RInts w P ps) (hb : RByt w D dt) :
    Calls Tryd.prog 9 #[.agg (tkC k (c : Int) (m : Int) P ps pc s D dt dc)] w fun e w' => e = .returned (.int .i64 (refChkP k c m ps s dt)) ∧ Below w.heap.size w w' := by
  have HCo := Lib.hid (fun W => refCode_any k c m P ps pc s D dt dc W)
  have HDa := Lib.hid (fun n W => refData_any n W)
  have HR := Lib.hid hr; have HD := Lib.hid hb
  have HK := Lib.hid (K1.start w 31 (tkC k (c : Int) (m : Int) P ps pc s D dt dc))
  have HR1 := Lib.hid (fun j hj h => allR_step (ps := ps) (j := j) hj h)
  have HS1 := Lib.hid (fun j hj h => all_step (s := s) (k := j) hj h); have HS2 := Lib.hid (fun h => all_end (s := s) h)
  have HD1 := Lib.hid (fun j hj h => allD_step (ps := dt) (j := j) hj h)
  have s3 : decide ((3 : Int) < (s.size : Int)) = decide (3 < s.size) := lt_lit 3 _
  have s30 : decide ((30 : Int) < (ps.length : Int)) = decide (30 < ps.length) := lt_lit 30 _
  have s40 : decide ((4096 : Int) < (dt.length : Int)) = decide (4096 < dt.length) := lt_lit 4096 _
  have m60 : decide ((m : Int) < 60) = decide (m < 60) := lt_lit m 60
  have m63 : decide ((63 : Int) < (m : Int)) = decide (63 < m) := lt_lit 63 m
  have m0 : ((m : Int) != 0) = (m != 0) := by rw [Bool.eq_iff_iff, bne_iff_ne, bne_iff_ne]; omega
  have p0 : decide ((0 : Int) < (ps.length : Int)) = decide (0 < ps.length) := lt_lit 0 _
  have d0 : decide ((0 : Int) < (dt.length : Int)) = decide (0 < dt.length) := lt_lit 0 _
  have z0 : s.toList.isEmpty = decide (s.size = 0) := by rw [ByteArray.toList_eq, ← dlen]; cases s.data.toList <;> simp
  have z1 : (s.toList == []) = decide (s.size = 0) := by rw [ByteArray.toList_eq, ← dlen]; cases s.data.toList <;> simp
  clear hr hb
  unfold maxLen at hsz hp hd
  unfold refChkP lateB
  unfold tkC at *
  have HqR : Hid (ps.all rngB = true → ps.all rngB = true) := Lib.hid id
  generalize hqr : ps.all rngB = qr at *
  generalize hqi : s.data.toList.all interB = qi at *
  generalize hqd : dt.all dataB = qd at *
  generalize codeQ k c s = qc at *
  generalize decide (3 < s.size) = v3 at *
  generalize decide (30 < ps.length) = v30 at *
  generalize decide (4096 < dt.length) = v40 at *
  generalize decide (m < 60) = w60 at *
  generalize decide (63 < m) = w63 at *
  generalize (m != 0) = wm at *
  generalize hvp : decide (0 < ps.length) = vp at *
  generalize hvd : decide (0 < dt.length) = vd at *
  generalize decide (s.size = 0) = vs at *
  generalize hk4 : (k == 4) = x4 at *
  generalize hk5 : (k == 5) = x5 at *
  generalize hk3 : (k != 3) = x3 at *
  generalize hl5 : decide (k < 5) = y5 at *
  generalize hl1 : decide (k < 1) = y1 at *
  generalize hl9 : decide (9 < k) = y9 at *
  have HqrE := Lib.hid hqr; have HqiE := Lib.hid hqi; have HqdE := Lib.hid hqd
  clear hqr hqi hqd HqR
  rcases y1 with _ | _
  case true =>
    go_enter Tryd.func9, Tryd.ntmps9
    go_upto_region 1 with fail
    generalize w.alloc (.cells #[.int .i64 k, .int .u8 (c : Int), .int .u8 (m : Int), .slice P ps.length pc, .string s, .slice D dt.length dc] 31) = w1 at *
    obtain ⟨a0, a1, a2, a3, a4, a5⟩ := six HK.out.1
    go_wp2_with fail
    go_ret
    exact ⟨rfl, HK.out.2⟩
  rcases y9 with _ | _
  case true =>
    go_enter Tryd.func9, Tryd.ntmps9
    go_upto_region 1 with fail
    generalize w.alloc (.cells #[.int .i64 k, .int .u8 (c : Int), .int .u8 (m : Int), .slice P ps.length pc, .string s, .slice D dt.length dc] 31) = w1 at *
    obtain ⟨a0, a1, a2, a3, a4, a5⟩ := six HK.out.1
    go_wp2_with fail
    go_ret
    exact ⟨rfl, HK.out.2⟩
  rcases v3 with _ | _
  case true =>
    go_enter Tryd.func9, Tryd.ntmps9
    go_upto_region 1 with fail
    generalize w.alloc (.cells #[.int .i64 k, .int .u8 (c : Int), .int .u8 (m : Int), .slice P ps.length pc, .string s, .slice D dt.length dc] 31) = w1 at *
    obtain ⟨a0, a1, a2, a3, a4, a5⟩ := six HK.out.1
    go_wp2_with fail
    go_ret
    exact ⟨rfl, HK.out.2⟩
  rcases v30 with _ | _
  case true =>
    go_enter Tryd.func9, Tryd.ntmps9
    go_upto_region 1 with fail
    generalize w.alloc (.cells #[.int .i64 k, .int .u8 (c : Int), .int .u8 (m : Int), .slice P ps.length pc, .string s, .slice D dt.length dc] 31) = w1 at *
    obtain ⟨a0, a1, a2, a3, a4, a5⟩ := six HK.out.1
    go_wp2_with fail
    go_ret
    exact ⟨rfl, HK.out.2⟩
  rcases v40 with _ | _
  case true =>
    go_enter Tryd.func9, Tryd.ntmps9
    go_upto_region 1 with fail
    generalize w.alloc (.cells #[.int .i64 k, .int .u8 (c : Int), .int .u8 (m : Int), .slice P ps.length pc, .string s, .slice D dt.length dc] 31) = w1 at *
    obtain ⟨a0, a1, a2, a3, a4, a5⟩ := six HK.out.1
    go_wp2_with fail
    go_ret
    exact ⟨rfl, HK.out.2⟩
  go_enter Tryd.func9, Tryd.ntmps9
  go_upto_region 1 with fail
  generalize w.alloc (.cells #[.int .i64 k, .int .u8 (c : Int), .int .u8 (m : Int), .slice P ps.length pc, .string s, .slice D dt.length dc] 31) = w1 at *
  obtain ⟨a0, a1, a2, a3, a4, a5⟩ := six HK.out.1
  go_wp2_with fail
  go_loopw [3] (fun i wr => ∃ j : Nat, j ≤ ps.length ∧ i = .int .i64 j ∧ (ps.take j).all rngB = true ∧ w1 = wr) (fun i _ => ps.length - (intOf i).toNat)
  case atStart => exact ⟨0, by omega, rfl, rfl, rfl⟩
  case round =>
    obtain ⟨j, hj, rfl, hall, rfl⟩ := hrel
    have HAll := Lib.hid hall
    clear hall
    by_cases hlt : j < ps.length
    · obtain ⟨ad, rfl, _, hc⟩ := (HR.out.next HK.out.2).at_ hlt
      obtain ⟨y1, y2⟩ := HR1.out j hlt HAll.out
      unfold rngB at y1 y2
      generalize ps[j] = x at *
      rcases hx1 : decide (x < 0) with _ | _
      · rcases hx2 : decide (65535 < x) with _ | _
        · have HN := Lib.hid (y1 (by rw [hx1, hx2]; rfl))
          clear y1 y2
          go_wp2_with fail
          go_roundw
          case rel => exact ⟨j + 1, by omega, by go_num, HN.out, trivial⟩
          case measure => simp [intOf]; omega
        · have HE := Lib.hid (y2 (by rw [hx1, hx2]; rfl))
          clear y1 y2
          go_wp2_with fail
          go_ret
          exact ⟨by rw [HE.out]; rfl, HK.out.2⟩
      · have HE := Lib.hid (y2 (by rw [hx1]; rfl))
        clear y1 y2
        go_wp2_with fail
        go_ret
        exact ⟨by rw [HE.out]; rfl, HK.out.2⟩
    · obtain rfl : j = ps.length := by omega
      have HEr : Hid (qr = true) := Lib.hid (by have := HAll.out; rw [List.take_length] at this; rw [← HqrE.out]; exact this)
      clear HAll HR1
      go_wp2_with fail
      go_loopw [4] (fun i wr => ∃ j : Nat, j ≤ s.size ∧ i = .int .i64 j ∧ (s.data.toList.take j).all interB = true ∧ w1 = wr) (fun i _ => s.size - (intOf i).toNat)
      case atStart => exact ⟨0, by omega, rfl, rfl, rfl⟩
      case round =>
        obtain ⟨j, hj, rfl, hall, rfl⟩ := hrel
        have HAll := Lib.hid hall
        clear hall
        by_cases hlt : j < s.size
        · obtain ⟨y1, y2⟩ := HS1.out j hlt HAll.out
          have e32 : decide ((s[j].toNat : Int) < 32) = decide (s[j].toNat < 32) := lt_lit _ 32
          have e47 : decide ((47 : Int) < (s[j].toNat : Int)) = decide (47 < s[j].toNat) := lt_lit 47 _
          by_cases hi : interB s[j] = true
          · have HN := Lib.hid (y1 hi)
            have g1 : decide (s[j].toNat < 32) = false := by unfold interB amongB at hi; simp at hi ⊢; omega
            have g2 : decide (47 < s[j].toNat) = false := by unfold interB amongB at hi; simp at hi ⊢; omega
            rw [g1] at e32
            rw [g2] at e47
            clear y1 y2 hi g1 g2
            go_wp2_with fail
            go_roundw
            case rel => exact ⟨j + 1, by omega, by go_num, HN.out, trivial⟩
            case measure => simp [intOf]; omega
          · have HE := Lib.hid (y2 (by simpa using hi))
            by_cases g1 : s[j].toNat < 32
            · rw [decide_eq_true g1] at e32
              clear y1 y2 hi g1
              go_wp2_with fail
              go_ret
              exact ⟨by rw [HEr.out, HE.out]; rfl, HK.out.2⟩
            · have g2 : decide (47 < s[j].toNat) = true := by unfold interB amongB at hi; simp at hi ⊢; omega
              rw [decide_eq_false g1] at e32
              rw [g2] at e47
              clear y1 y2 hi g1 g2
              go_wp2_with fail
              go_ret
              exact ⟨by rw [HEr.out, HE.out]; rfl, HK.out.2⟩
        · obtain rfl : j = s.size := by omega
          have HEi : Hid (qi = true) := Lib.hid (HS2.out HAll.out)
          clear HAll HS1 HS2
          go_wp2_with fail
          go_loopw [5] (fun i wr => ∃ j : Nat, j ≤ dt.length ∧ i = .int .i64 j ∧ (dt.take j).all dataB = true ∧ w1 = wr) (fun i _ => dt.length - (intOf i).toNat)
          case atStart => exact ⟨0, by omega, rfl, rfl, rfl⟩
          case round =>
            obtain ⟨j, hj, rfl, hall, rfl⟩ := hrel
            have HAll := Lib.hid hall
            clear hall
            by_cases hlt : j < dt.length
            · obtain ⟨ad, rfl, _, hc⟩ := (HD.out.next HK.out.2).at_ hlt
              obtain ⟨y1, y2⟩ := HD1.out j hlt HAll.out
              have HX := Lib.hid (fun W => HDa.out dt[j] W)
              generalize dt[j] = x at *
              rcases hx : dataB x with _ | _
              · have HE := Lib.hid (y2 hx)
                rw [hx] at HX
                clear y1 y2 hx
                go_wp2_with fail
                refine (HX.out _).mono ?_
                rintro e w2 ⟨rfl, rfl⟩
                go_wp2_with fail
                go_ret
                exact ⟨by rw [HEr.out, HEi.out, HE.out]; rfl, HK.out.2⟩
              · have HN := Lib.hid (y1 hx)
                rw [hx] at HX
                clear y1 y2 hx
                go_wp2_with fail
                refine (HX.out _).mono ?_
                rintro e w2 ⟨rfl, rfl⟩
                go_wp2_with fail
                go_roundw
                case rel => exact ⟨j + 1, by omega, by go_num, HN.out, trivial⟩
                case measure => simp [intOf]; omega
            · obtain rfl : j = dt.length := by omega
              have HEd : Hid (qd = true) := Lib.hid (by have := HAll.out; rw [List.take_length] at this; rw [← HqdE.out]; exact this)
              clear HAll HD1 HqrE HqiE HqdE
              go_wp2_with fail
              refine (HCo.out _).mono ?_
              rintro e w2 ⟨rfl, hb2⟩
              have HK2 := Lib.hid (HK.out.next hb2)
              clear hb2 a0 a1 a2 a3 a4 a5 HCo hj hlt
              obtain ⟨a0, a1, a2, a3, a4, a5⟩ := six HK2.out.1
              rcases qc with _ | _
              · go_wp2_with fail
                go_ret
                exact ⟨by rw [HEr.out, HEi.out, HEd.out]; rfl, HK2.out.2⟩
              · rcases wm with _ | _
                · skip
                  rcases x4 with _ | _
                  · rcases x5 with _ | _
                    · rcases vp with _ | _
                      · rcases x3 with _ | _
                        · rcases y5 with _ | _
                          · skip
                            first | have hP := of_decide_eq_false hvp | have hP := of_decide_eq_true hvp | skip
                            first | have hD := of_decide_eq_false hvd | have hD := of_decide_eq_true hvd | skip
                            go_wp2_with fail
                            go_ret
                            exact ⟨by rw [HEr.out, HEi.out, HEd.out]; rfl, HK2.out.2⟩
                          · rcases vd with _ | _
                            all_goals
                              first | have hP := of_decide_eq_false hvp | have hP := of_decide_eq_true hvp | skip
                              first | have hD := of_decide_eq_false hvd | have hD := of_decide_eq_true hvd | skip
                              go_wp2_with fail
                              go_ret
                              exact ⟨by rw [HEr.out, HEi.out, HEd.out]; rfl, HK2.out.2⟩
                        · rcases vs with _ | _
                          · skip
                            first | have hP := of_decide_eq_false hvp | have hP := of_decide_eq_true hvp | skip
                            first | have hD := of_decide_eq_false hvd | have hD := of_decide_eq_true hvd | skip
                            go_wp2_with fail
                            go_ret
                            exact ⟨by rw [HEr.out, HEi.out, HEd.out]; rfl, HK2.out.2⟩
                          · rcases y5 with _ | _
                            · skip
                              first | have hP := of_decide_eq_false hvp | have hP := of_decide_eq_true hvp | skip
                              first | have hD := of_decide_eq_false hvd | have hD := of_decide_eq_true hvd | skip
                              go_wp2_with fail
                              go_ret
                              exact ⟨by rw [HEr.out, HEi.out, HEd.out]; rfl, HK2.out.2⟩
                            · rcases vd with _ | _
                              all_goals
                                first | have hP := of_decide_eq_false hvp | have hP := of_decide_eq_true hvp | skip
                                first | have hD := of_decide_eq_false hvd | have hD := of_decide_eq_true hvd | skip
                                go_wp2_with fail
                                go_ret
                                exact ⟨by rw [HEr.out, HEi.out, HEd.out]; rfl, HK2.out.2⟩
                      · skip
                        first | have hP := of_decide_eq_false hvp | have hP := of_decide_eq_true hvp | skip
                        first | have hD := of_decide_eq_false hvd | have hD := of_decide_eq_true hvd | skip
                        go_wp2_with fail
                        go_ret
                        exact ⟨by rw [HEr.out, HEi.out, HEd.out]; rfl, HK2.out.2⟩
                    · rcases y5 with _ | _
                      · skip
                        first | have hP := of_decide_eq_false hvp | have hP := of_decide_eq_true hvp | skip
                        first | have hD := of_decide_eq_false hvd | have hD := of_decide_eq_true hvd | skip
                        go_wp2_with fail
                        go_ret
                        exact ⟨by rw [HEr.out, HEi.out, HEd.out]; rfl, HK2.out.2⟩
                      · rcases vd with _ | _
                        all_goals
                          first | have hP := of_decide_eq_false hvp | have hP := of_decide_eq_true hvp | skip
                          first | have hD := of_decide_eq_false hvd | have hD := of_decide_eq_true hvd | skip
                          go_wp2_with fail
                          go_ret
                          exact ⟨by rw [HEr.out, HEi.out, HEd.out]; rfl, HK2.out.2⟩
                  · rcases y5 with _ | _
                    · skip
                      first | have hP := of_decide_eq_false hvp | have hP := of_decide_eq_true hvp | skip
                      first | have hD := of_decide_eq_false hvd | have hD := of_decide_eq_true hvd | skip
                      go_wp2_with fail
                      go_ret
                      exact ⟨by rw [HEr.out, HEi.out, HEd.out]; rfl, HK2.out.2⟩
                    · rcases vd with _ | _
                      all_goals
                        first | have hP := of_decide_eq_false hvp | have hP := of_decide_eq_true hvp | skip
                        first | have hD := of_decide_eq_false hvd | have hD := of_decide_eq_true hvd | skip
                        go_wp2_with fail
                        go_ret
                        exact ⟨by rw [HEr.out, HEi.out, HEd.out]; rfl, HK2.out.2⟩
                · rcases w60 with _ | _
                  · rcases w63 with _ | _
                    · skip
                      rcases x4 with _ | _
                      · rcases x5 with _ | _
                        · skip
                          first | have hP := of_decide_eq_false hvp | have hP := of_decide_eq_true hvp | skip
                          first | have hD := of_decide_eq_false hvd | have hD := of_decide_eq_true hvd | skip
                          go_wp2_with fail
                          go_ret
                          exact ⟨by rw [HEr.out, HEi.out, HEd.out]; rfl, HK2.out.2⟩
                        · rcases y5 with _ | _
                          · skip
                            first | have hP := of_decide_eq_false hvp | have hP := of_decide_eq_true hvp | skip
                            first | have hD := of_decide_eq_false hvd | have hD := of_decide_eq_true hvd | skip
                            go_wp2_with fail
                            go_ret
                            exact ⟨by rw [HEr.out, HEi.out, HEd.out]; rfl, HK2.out.2⟩
                          · rcases vd with _ | _
                            all_goals
                              first | have hP := of_decide_eq_false hvp | have hP := of_decide_eq_true hvp | skip
                              first | have hD := of_decide_eq_false hvd | have hD := of_decide_eq_true hvd | skip
                              go_wp2_with fail
                              go_ret
                              exact ⟨by rw [HEr.out, HEi.out, HEd.out]; rfl, HK2.out.2⟩
                      · rcases y5 with _ | _
                        · skip
                          first | have hP := of_decide_eq_false hvp | have hP := of_decide_eq_true hvp | skip
                          first | have hD := of_decide_eq_false hvd | have hD := of_decide_eq_true hvd | skip
                          go_wp2_with fail
                          go_ret
                          exact ⟨by rw [HEr.out, HEi.out, HEd.out]; rfl, HK2.out.2⟩
                        · rcases vd with _ | _
                          all_goals
                            first | have hP := of_decide_eq_false hvp | have hP := of_decide_eq_true hvp | skip
                            first | have hD := of_decide_eq_false hvd | have hD := of_decide_eq_true hvd | skip
                            go_wp2_with fail
                            go_ret
                            exact ⟨by rw [HEr.out, HEi.out, HEd.out]; rfl, HK2.out.2⟩
                    · skip
                      first | have hP := of_decide_eq_false hvp | have hP := of_decide_eq_true hvp | skip
                      first | have hD := of_decide_eq_false hvd | have hD := of_decide_eq_true hvd | skip
                      go_wp2_with fail
                      go_ret
                      exact ⟨by rw [HEr.out, HEi.out, HEd.out]; rfl, HK2.out.2⟩
                  · skip
                    first | have hP := of_decide_eq_false hvp | have hP := of_decide_eq_true hvp | skip
                    first | have hD := of_decide_eq_false hvd | have hD := of_decide_eq_true hvd | skip
                    go_wp2_with fail
                    go_ret
                    exact ⟨by rw [HEr.out, HEi.out, HEd.out]; rfl, HK2.out.2⟩
end Go.Proofs.YtpiliicphoacfaaDoor

namespace Go.Proofs.YtpiliicphoacfaaDoor

open Go Go.RowKit

theorem bstr_nil (dt : List Nat) : decide (bstr dt = bstr []) = decide (dt.length = 0) := by
  rw [Bool.eq_iff_iff, decide_eq_true_iff, decide_eq_true_iff]
  constructor
  · intro h
    have := congrArg ByteArray.size h
    rw [bstr_size, bstr_size] at this
    exact this
  · intro h
    rw [List.length_eq_zero_iff.1 h]
theorem str_nil (s : ByteArray) : (s.toList == (ByteArray.mk #[]).toList) = decide (s.size = 0) := by
  rw [ByteArray.toList_eq, ByteArray.toList_eq, ← dlen]
  cases s.data.toList <;> simp
theorem ints_nil (ps : List Int) : (ps == []) = decide (ps.length = 0) := by
  cases ps <;> simp
theorem pos_dec (n : Nat) : decide (0 < n) = !decide (n = 0) := by
  by_cases h : n = 0
  · subst h; rfl
  · rw [decide_eq_false h, decide_eq_true (by omega)]; rfl
theorem mcast (m : Nat) : ((m : Int) == 0) = !(m != 0) := by
  rw [Bool.eq_iff_iff]
  simp
theorem same_zero (k c m : Int) (ps : List Int) (s : ByteArray) (dt : List Nat) : sameQ k c m ps s dt k 0 0 [] (ByteArray.mk #[]) [] = ((c == 0) && ((m == 0) && (decide (s.size = 0) && (decide (ps.length = 0) && decide (dt.length = 0))))) := by
  unfold sameQ
  rw [bstr_nil, str_nil, ints_nil]
  simp
theorem pure_late (k : Int) (h1 : 1 ≤ k) (h9 : k ≤ 9) (c m : Nat) (ps : List Int) (s : ByteArray) (dt : List Nat) : (pureB k c m ps s dt && codedB k c s) = (codeQ k c s && !lateB k m ps s dt) := by
  unfold pureB lateB
  rw [code_same, pos_dec, pos_dec]
  simp only [same_zero, mcast]
  have hc : (c == 0) = !(c != 0) := by cases h : (c == 0) <;> simp [bne, h]
  rw [hc]
  have hs : k = 1 ∨ k = 2 ∨ k = 3 ∨ k = 4 ∨ k = 5 ∨ k = 6 ∨ k = 7 ∨ k = 8 ∨ k = 9 := by omega
  rcases hs with rfl | rfl | rfl | rfl | rfl | h
  · generalize codedB 1 c s = q
    cases q <;> cases (m != 0) <;> cases decide (s.size = 0) <;> cases decide (ps.length = 0) <;> cases decide (dt.length = 0) <;> rfl
  · generalize codedB 2 c s = q
    cases q <;> cases (m != 0) <;> cases decide (s.size = 0) <;> cases decide (ps.length = 0) <;> cases decide (dt.length = 0) <;> rfl
  · generalize codedB 3 c s = q
    cases q <;> cases (m != 0) <;> cases decide (s.size = 0) <;> cases decide (ps.length = 0) <;> cases decide (dt.length = 0) <;> rfl
  · generalize codedB 4 c s = q
    cases q <;> cases (m != 0) <;> cases decide (s.size = 0) <;> cases decide (ps.length = 0) <;> cases decide (dt.length = 0) <;> rfl
  · generalize codedB 5 c s = q
    cases q <;> cases (m != 0) <;> cases decide (s.size = 0) <;> cases decide (ps.length = 0) <;> cases decide (dt.length = 0) <;> rfl
  · have ec : codedB k c s = true := by
      unfold codedB
      rw [if_neg (by omega), if_neg (by omega), if_neg (by omega), if_neg (by omega)]
    rw [ec]
    rcases h with rfl | rfl | rfl | rfl
    all_goals
      cases (c != 0) <;> cases (m != 0) <;> cases decide (s.size = 0) <;> cases decide (ps.length = 0) <;> cases decide (dt.length = 0) <;> rfl
theorem out_rng (n : Int) : outB n = !rngB n := by
  unfold outB rngB clipP
  rw [Bool.eq_iff_iff]
  simp
  omega
theorem any_not {α : Type} (f g : α → Bool) (h : ∀ x, f x = !g x) : ∀ l : List α, l.any f = !l.all g
  | [] => rfl
  | x :: l => by rw [List.any_cons, List.all_cons, h, any_not f g h l, Bool.not_and]
theorem chk_same (k : Int) (c m : Nat) (ps : List Int) (s : ByteArray) (dt : List Nat) : refChkP k c m ps s dt = checkP k c m ps s dt := by
  unfold refChkP checkP
  by_cases hk : k < 1 ∨ 9 < k
  · rw [if_pos hk]
    have : (decide (k < 1) || decide (9 < k)) = true := by simpa using hk
    rw [this]
    rfl
  · rw [if_neg hk]
    have e : (decide (k < 1) || decide (9 < k)) = false := by simp; omega
    rw [e]
    have hpl := pure_late k (by omega) (by omega) c m ps s dt
    have hsm : smallB ps s dt = (!(decide (3 < s.size) || (decide (30 < ps.length) || decide (4096 < dt.length))) && ps.all rngB) := by
      unfold smallB
      rw [any_not outB rngB out_rng ps]
      have q1 : decide (s.size ≤ 3) = !decide (3 < s.size) := by rw [Bool.eq_iff_iff]; simp
      have q2 : decide (ps.length ≤ 30) = !decide (30 < ps.length) := by rw [Bool.eq_iff_iff]; simp
      have q3 : decide (dt.length ≤ 4096) = !decide (4096 < dt.length) := by rw [Bool.eq_iff_iff]; simp
      rw [q1, q2, q3]
      cases decide (3 < s.size) <;> cases decide (30 < ps.length) <;> cases decide (4096 < dt.length) <;> cases ps.all rngB <;> rfl
    have hwr : writtenB m s dt = (!((m != 0) && (decide (m < 60) || decide (63 < m))) && (s.data.toList.all interB && dt.all dataB)) := by
      unfold writtenB amongB
      rw [any_not noDataB dataB noData_eq dt]
      have q1 : decide (60 ≤ m) = !decide (m < 60) := by rw [Bool.eq_iff_iff]; simp
      have q2 : decide (m ≤ 63) = !decide (63 < m) := by rw [Bool.eq_iff_iff]; simp
      have q3 : (m == 0) = !(m != 0) := by cases h : (m == 0) <;> simp [bne, h]
      rw [q1, q2, q3]
      cases (m != 0) <;> cases decide (m < 60) <;> cases decide (63 < m) <;> cases s.data.toList.all interB <;> cases dt.all dataB <;> rfl
    have h3 : (pureB k c m ps s dt && (codedB k c s && writtenB m s dt)) = ((codeQ k c s && !lateB k m ps s dt) && writtenB m s dt) := by rw [← hpl, Bool.and_assoc]
    rw [h3, hsm, hwr]
    cases (decide (3 < s.size) || (decide (30 < ps.length) || decide (4096 < dt.length))) <;> cases ps.all rngB <;> cases s.data.toList.all interB <;> cases dt.all dataB <;> cases codeQ k c s <;> cases ((m != 0) && (decide (m < 60) || decide (63 < m))) <;> cases lateB k m ps s dt <;> rfl
end Go.Proofs.YtpiliicphoacfaaDoor

namespace Go.Proofs.YtpiliicphoacfaaDoor

open Go Go.RowKit

theorem fmt_six : fmtL [6] = [54] := by
  unfold fmtL digs
  show Lib.join [Lib.decDigits 6] [59] = [54]
  rw [Lib.decDigits, dif_pos (by omega)]
  rfl
theorem fmt_none : fmtL [] = [] := rfl
def dollar : ByteArray := ⟨#[36]⟩
theorem fix_check : checkP 4 112 63 [6] ⟨#[36]⟩ [] = 0 := by decide +kernel
theorem fix_bytes : bytesL 4 112 63 [6] ⟨#[36]⟩ [] true = [155, 63, 54, 36, 112] := by
  show leadL 91 true ++ signsL 112 63 [6] ⟨#[36]⟩ ++ [] = _
  unfold signsL
  rw [fmt_six]
  rfl
theorem fix_id : idP 4 112 63 ⟨#[36]⟩ = ⟨#[63, 36, 112]⟩ := by
  unfold idP signsL
  rw [fmt_none]
  rfl
theorem fix_str : bstr [155, 63, 54, 36, 112] = ⟨#[155, 63, 54, 36, 112]⟩ := rfl
set_option maxRecDepth 100000 in
set_option maxHeartbeats 8000000 in
theorem told_any (k : Int) (c m : Int) (P : Option Addr) (ps : List Int) (pc : Nat) (s : ByteArray) (D : Option Addr) (dt : List Nat) (dc : Nat) (w : World) :
    Calls Tryd.prog 27 #[.agg (tkC k c m P ps pc s D dt dc)] w fun e w' => e = .returned (.agg (tkC k c m P ps pc s D dt dc)) ∧ Below w.heap.size w w' := by
  unfold tkC
  go_enter Tryd.func27, Tryd.ntmps27
  go_wp2_with fail
  exact bodyPost_ret (v := .agg #[.int .i64 k, .int .u8 c, .int .u8 m, .slice P ps.length pc, .string s, .slice D dt.length dc]) (by simp [results, Tryd.results27, go_sem]) rfl ⟨rfl, by go_grown⟩

end Go.Proofs.YtpiliicphoacfaaDoor

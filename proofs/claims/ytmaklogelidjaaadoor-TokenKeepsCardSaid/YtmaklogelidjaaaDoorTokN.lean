/-
  Tokens: the reference's check.
-/
import Derived.Test.YtmaklogelidjaaaDoorTokM
namespace Go.Proofs.YtmaklogelidjaaaDoor

open Go Go.RowKit

def codeQ (k : Int) (c : Nat) (s : ByteArray) : Bool :=
  if k = 1 then amongB c 32 126 || decide (160 ≤ c)
  else if k = 2 then amongB c 1 31 && ((c != 24) && (c != 27))
  else if k = 3 then (if decide (s.size = 0) && ((begunP c != 0) || (c == 92)) then false else amongB c 48 126)
  else if k = 4 ∨ k = 5 then amongB c 64 126
  else c == 0
theorem code_same (k : Int) (c : Nat) (s : ByteArray) : codeQ k c s = if k = 1 ∨ k = 2 ∨ k = 3 ∨ k = 4 ∨ k = 5 then codedB k c s else c == 0 := by
  unfold codeQ codedB
  by_cases k1 : k = 1
  · subst k1; rfl
  · by_cases k2 : k = 2
    · subst k2; rfl
    · by_cases k3 : k = 3
      · subst k3
        show (if (decide (s.size = 0) && ((begunP c != 0) || (c == 92))) = true then false else amongB c 48 126) = (amongB c 48 126 && (!decide (s.size = 0) || !leadsB c))
        rw [begun_leads]
        cases decide (s.size = 0) <;> cases (begunP c != 0) <;> cases (c == 92) <;> cases amongB c 48 126 <;> rfl
      · by_cases k4 : k = 4 ∨ k = 5
        · rw [if_neg k1, if_neg k2, if_neg k3, if_pos k4, if_pos (by omega), if_neg k1, if_neg k2, if_neg k3, if_pos k4]
        · rw [if_neg k1, if_neg k2, if_neg k3, if_neg k4, if_neg (by omega)]
theorem le_lit (a : Nat) (n : Nat) : decide ((a : Int) ≤ (n : Int)) = decide (a ≤ n) := by simp
set_option maxRecDepth 100000 in
set_option maxHeartbeats 8000000 in
theorem refCode_any (k : Int) (c m : Nat) (P : Option Addr) (ps : List Int) (pc : Nat) (s : ByteArray) (D : Option Addr) (dt : List Nat) (dc : Nat) (w : World) :
    Calls Tryd.prog 21 #[.agg (tkC k (c : Int) (m : Int) P ps pc s D dt dc)] w fun e w' => e = .returned (.bool (codeQ k c s)) ∧ Below w.heap.size w w' := by
  have HBg := Lib.hid (fun W => begun_any c W)
  have HK := Lib.hid (K1.start w 25 (tkC k (c : Int) (m : Int) P ps pc s D dt dc))
  have e1 : decide ((1 : Int) ≤ (c : Int)) = decide (1 ≤ c) := le_lit 1 c
  have e31 : decide ((c : Int) ≤ 31) = decide (c ≤ 31) := le_lit c 31
  have e32 : decide ((32 : Int) ≤ (c : Int)) = decide (32 ≤ c) := le_lit 32 c
  have e48 : decide ((48 : Int) ≤ (c : Int)) = decide (48 ≤ c) := le_lit 48 c
  have e64 : decide ((64 : Int) ≤ (c : Int)) = decide (64 ≤ c) := le_lit 64 c
  have e126 : decide ((c : Int) ≤ 126) = decide (c ≤ 126) := le_lit c 126
  have e160 : decide ((160 : Int) ≤ (c : Int)) = decide (160 ≤ c) := le_lit 160 c
  have e24 : ((c : Int) != 24) = (c != 24) := by rw [Bool.eq_iff_iff, bne_iff_ne, bne_iff_ne]; omega
  have e27 : ((c : Int) != 27) = (c != 27) := by rw [Bool.eq_iff_iff, bne_iff_ne, bne_iff_ne]; omega
  have e92 : ((c : Int) == 92) = (c == 92) := by rw [Bool.eq_iff_iff, beq_iff_eq, beq_iff_eq]; omega
  have e0 : ((c : Int) == 0) = (c == 0) := by rw [Bool.eq_iff_iff, beq_iff_eq, beq_iff_eq]; omega
  have eb : ((begunP c : Int) != 0) = (begunP c != 0) := by rw [Bool.eq_iff_iff, bne_iff_ne, bne_iff_ne]; omega
  unfold codeQ amongB
  unfold tkC at *
  generalize decide (1 ≤ c) = b1 at *
  generalize decide (c ≤ 31) = b31 at *
  generalize decide (32 ≤ c) = b32 at *
  generalize decide (48 ≤ c) = b48 at *
  generalize decide (64 ≤ c) = b64 at *
  generalize decide (c ≤ 126) = b126 at *
  generalize decide (160 ≤ c) = b160 at *
  generalize (c != 24) = n24 at *
  generalize (c != 27) = n27 at *
  generalize (c == 92) = n92 at *
  generalize (c == 0) = n0 at *
  generalize (begunP c != 0) = nb at *
  generalize begunP c = bg at *
  by_cases k1 : k = 1
  · subst k1; rw [if_pos rfl]; clear HBg
    rcases b32 with _ | _ <;> rcases b126 with _ | _ <;> rcases b160 with _ | _ <;>
      (go_enter Tryd.func21, Tryd.ntmps21
       go_upto_region 1 with fail
       generalize w.alloc (.cells #[.int .i64 1, .int .u8 (c : Int), .int .u8 (m : Int), .slice P ps.length pc, .string s, .slice D dt.length dc] 25) = w1 at *
       obtain ⟨a0, a1, a2, a3, a4, a5⟩ := six HK.out.1
       go_wp2_with fail
       go_ret
       exact ⟨rfl, HK.out.2⟩)
  by_cases k2 : k = 2
  · subst k2; rw [if_neg (by omega), if_pos rfl]; clear HBg
    rcases b1 with _ | _ <;> rcases b31 with _ | _ <;> rcases n24 with _ | _ <;> rcases n27 with _ | _ <;>
      (go_enter Tryd.func21, Tryd.ntmps21
       go_upto_region 1 with fail
       generalize w.alloc (.cells #[.int .i64 2, .int .u8 (c : Int), .int .u8 (m : Int), .slice P ps.length pc, .string s, .slice D dt.length dc] 25) = w1 at *
       obtain ⟨a0, a1, a2, a3, a4, a5⟩ := six HK.out.1
       go_wp2_with fail
       go_ret
       exact ⟨rfl, HK.out.2⟩)
  by_cases k3 : k = 3
  · subst k3; rw [if_neg (by omega), if_neg (by omega), if_pos rfl]
    by_cases hs : s.size = 0
    · rw [decide_eq_true hs]
      have hnil : s.toList = [] := by rw [ByteArray.toList_eq]; exact List.length_eq_zero_iff.1 hs
      clear hs
      rcases nb with _ | _ <;> rcases n92 with _ | _ <;> rcases b48 with _ | _ <;> rcases b126 with _ | _ <;>
        (go_enter Tryd.func21, Tryd.ntmps21
         go_upto_region 1 with fail
         generalize w.alloc (.cells #[.int .i64 3, .int .u8 (c : Int), .int .u8 (m : Int), .slice P ps.length pc, .string s, .slice D dt.length dc] 25) = w1 at *
         obtain ⟨a0, a1, a2, a3, a4, a5⟩ := six HK.out.1
         go_wp2_with fail
         refine (HBg.out _).mono ?_
         rintro e w2 ⟨rfl, rfl⟩
         go_wp2_with fail
         go_ret
         exact ⟨rfl, HK.out.2⟩)
    · rw [decide_eq_false hs]
      have hnil2 : s.toList.isEmpty = false := by rw [ByteArray.toList_eq]; cases h : s.data.toList with | nil => exact absurd (by rw [← dlen, h]; rfl) hs | cons a b => rfl
      have hnil : (s.toList == []) = false := by cases h : s.toList with | nil => rw [h] at hnil2; cases hnil2 | cons a b => rfl
      clear hs HBg
      rcases b48 with _ | _ <;> rcases b126 with _ | _ <;>
        (go_enter Tryd.func21, Tryd.ntmps21
         go_upto_region 1 with fail
         generalize w.alloc (.cells #[.int .i64 3, .int .u8 (c : Int), .int .u8 (m : Int), .slice P ps.length pc, .string s, .slice D dt.length dc] 25) = w1 at *
         obtain ⟨a0, a1, a2, a3, a4, a5⟩ := six HK.out.1
         go_wp2_with fail
         go_ret
         exact ⟨rfl, HK.out.2⟩)
  by_cases k4 : k = 4
  · subst k4; rw [if_neg (by omega), if_neg (by omega), if_neg (by omega), if_pos (.inl rfl)]; clear HBg
    rcases b64 with _ | _ <;> rcases b126 with _ | _ <;>
      (go_enter Tryd.func21, Tryd.ntmps21
       go_upto_region 1 with fail
       generalize w.alloc (.cells #[.int .i64 4, .int .u8 (c : Int), .int .u8 (m : Int), .slice P ps.length pc, .string s, .slice D dt.length dc] 25) = w1 at *
       obtain ⟨a0, a1, a2, a3, a4, a5⟩ := six HK.out.1
       go_wp2_with fail
       go_ret
       exact ⟨rfl, HK.out.2⟩)
  by_cases k5 : k = 5
  · subst k5; rw [if_neg (by omega), if_neg (by omega), if_neg (by omega), if_pos (.inr rfl)]; clear HBg
    rcases b64 with _ | _ <;> rcases b126 with _ | _ <;>
      (go_enter Tryd.func21, Tryd.ntmps21
       go_upto_region 1 with fail
       generalize w.alloc (.cells #[.int .i64 5, .int .u8 (c : Int), .int .u8 (m : Int), .slice P ps.length pc, .string s, .slice D dt.length dc] 25) = w1 at *
       obtain ⟨a0, a1, a2, a3, a4, a5⟩ := six HK.out.1
       go_wp2_with fail
       go_ret
       exact ⟨rfl, HK.out.2⟩)
  rw [if_neg k1, if_neg k2, if_neg k3, if_neg (by omega)]
  have m1 : (k == 1) = false := by simpa using k1
  have m2 : (k == 2) = false := by simpa using k2
  have m3 : (k == 3) = false := by simpa using k3
  have m4 : (k == 4) = false := by simpa using k4
  have m5 : (k == 5) = false := by simpa using k5
  clear k1 k2 k3 k4 k5 HBg
  go_enter Tryd.func21, Tryd.ntmps21
  go_upto_region 1 with fail
  generalize w.alloc (.cells #[.int .i64 k, .int .u8 (c : Int), .int .u8 (m : Int), .slice P ps.length pc, .string s, .slice D dt.length dc] 25) = w1 at *
  obtain ⟨a0, a1, a2, a3, a4, a5⟩ := six HK.out.1
  go_wp2_with fail
  go_ret
  exact ⟨rfl, HK.out.2⟩
end Go.Proofs.YtmaklogelidjaaaDoor

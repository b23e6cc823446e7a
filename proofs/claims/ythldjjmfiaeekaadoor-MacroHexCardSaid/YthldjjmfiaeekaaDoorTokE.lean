/-
  Tokens: is nothing too great, is a code one of its kind, are there such bytes alone as may be?
-/
import Derived.Test.YthldjjmfiaeekaaDoorTokD
import Derived.Lib.Bytealg
import Derived.Lib.Strings
import Derived.Laws.Externs
import Derived.Laws.Strings3
namespace Go.Proofs.YthldjjmfiaeekaaDoor

open Go Go.RowKit

set_option maxHeartbeats 1000000 in
set_option maxRecDepth 100000 in
theorem indexByte_any (s : ByteArray) (c : Int) (w : World) :
    Calls Tryd.prog 124 #[.string s, .int .u8 c] w fun e w' => e = .returned (.int .i64 (Lib.indexByte s.data.toList c.toNat.toUInt8)) ∧ w = w' := by
  go_enter Tryd.func124, Tryd.ntmps124
  go_wp2
  rw [run_callFunc_extern Tryd.func136 (by kernel_rfl) (by kernel_rfl) (by kernel_rfl) (e := Extern.BytealgIndexByte.indexByte) (by kernel_rfl), Lib.run_indexByteString]
  simp only [Result.andThen]
  rw [Oper.upon_value]
  go_wp2
  go_ret
  exact ⟨rfl, rfl⟩
theorem strIndexByte_any (s : ByteArray) (c : Int) (w : World) :
    Calls Tryd.prog 141 #[.string s, .int .u8 c] w fun e w' => e = .returned (.int .i64 (Lib.indexByte s.data.toList c.toNat.toUInt8)) ∧ w = w' := by
  have HI := Lib.hid (fun W => indexByte_any s c W)
  go_enter Tryd.func141, Tryd.ntmps141
  go_wp2_with (go_at_call 124; refine (HI.out _).mono ?_; rintro e w1 ⟨rfl, rfl⟩)
  go_ret
  exact ⟨rfl, rfl⟩
/-- What is known with one box in memory. -/
def K1 (w : World) (T : TypeId) (x : Array Value) (W : World) : Prop := Blk W w.heap.size T x ∧ Below w.heap.size w W
theorem K1.start (w : World) (T : TypeId) (x : Array Value) : K1 w T x (w.alloc (.cells x T)) := ⟨Blk.new w T x, (Below.refl _ _).alloc (Nat.le_refl _) _⟩
theorem K1.next {w W W' : World} {T : TypeId} {x : Array Value} (h : K1 w T x W) (hb : Below W.heap.size W W') : K1 w T x W' := ⟨h.1.next hb, h.2.trans (hb.mono h.2.size)⟩
/-- A byte that leads to another kind, or ends a string. -/
def leadsB (c : Nat) : Bool := [80, 88, 91, 92, 93, 94, 95].contains c
theorem leads_idx : ∀ c : Nat, c < 256 → decide (0 ≤ Lib.indexByte [91, 80, 93, 88, 94, 95] (c : Int).toNat.toUInt8) = (leadsB c && (c != 92)) := by decide +kernel
set_option maxHeartbeats 1000000 in
theorem leads_any (c : Nat) (hc : c < 256) (w : World) : Calls Tryd.prog 132 #[.int .u8 (c : Int)] w fun e w' => e = .returned (.bool (leadsB c)) ∧ w = w' := by
  have HI := Lib.hid (fun W => strIndexByte_any ⟨#[91, 80, 93, 88, 94, 95]⟩ (c : Int) W)
  have hx : decide (0 ≤ Lib.indexByte (ByteArray.mk #[91, 80, 93, 88, 94, 95]).data.toList (c : Int).toNat.toUInt8) = (leadsB c && (c != 92)) := leads_idx c hc
  generalize Lib.indexByte (ByteArray.mk #[91, 80, 93, 88, 94, 95]).data.toList (c : Int).toNat.toUInt8 = r at *
  by_cases h : c = 92
  · subst h
    clear hx HI
    go_enter Tryd.func132, Tryd.ntmps132
    go_wp2_with fail
    go_ret
    exact ⟨rfl, rfl⟩
  · have g0 : ((c : Int) == 92) = false := by simp; omega
    have e : leadsB c = (leadsB c && (c != 92)) := by rw [show (c != 92) = true from by simpa using h, Bool.and_true]
    rw [← e] at hx
    have HX := Lib.hid hx
    clear hx e h
    go_enter Tryd.func132, Tryd.ntmps132
    go_wp2_with fail
    refine (HI.out _).mono ?_
    rintro e w1 ⟨rfl, rfl⟩
    go_wp2_with fail
    go_ret
    exact ⟨ret_bool HX.out, rfl⟩
def smallB (ps : List Int) (s : ByteArray) (dt : List Nat) : Bool := decide (s.size ≤ 3) && (decide (ps.length ≤ 30) && (decide (dt.length ≤ 4096) && !(ps.any outB)))
def codedB (k : Int) (c : Nat) (s : ByteArray) : Bool :=
  if k = 1 then amongB c 32 126 || decide (160 ≤ c)
  else if k = 2 then amongB c 1 31 && ((c != 24) && (c != 27))
  else if k = 3 then amongB c 48 126 && (!decide (s.size = 0) || !leadsB c)
  else if k = 4 ∨ k = 5 then amongB c 64 126
  else true
set_option maxRecDepth 100000 in
set_option maxHeartbeats 4000000 in
theorem small_any (k : Int) (c m : Nat) (P : Option Addr) (ps : List Int) (pc : Nat) (s : ByteArray) (D : Option Addr) (dt : List Nat) (dc : Nat) (hp : ps.length ≤ maxLen) (w : World) (hr : RInts w P ps) :
    Calls Tryd.prog 118 #[.agg (tkC k (c : Int) (m : Int) P ps pc s D dt dc)] w fun e w' => e = .returned (.bool (smallB ps s dt)) ∧ Below w.heap.size w w' := by
  have HC := Lib.hid (fun W h => containsI_any 130 outB (fun args W => Tryd.call130 args W) (fun n W => out_any n W) P pc ps hp W h)
  have HR := Lib.hid hr
  have HK := Lib.hid (K1.start w 102 (tkC k (c : Int) (m : Int) P ps pc s D dt dc))
  clear hr hp
  unfold smallB
  unfold tkC at *
  generalize ps.any outB = q at *
  by_cases g0 : s.size ≤ 3
  · have t0 : decide ((s.size : Int) ≤ 3) = true := by simp; omega
    rw [decide_eq_true g0]
    by_cases g1 : ps.length ≤ 30
    · have t1 : decide ((ps.length : Int) ≤ 30) = true := by simp; omega
      rw [decide_eq_true g1]
      by_cases g2 : dt.length ≤ 4096
      · have t2 : decide ((dt.length : Int) ≤ 4096) = true := by simp; omega
        rw [decide_eq_true g2]
        clear g0 g1 g2
        go_enter Tryd.func118, Tryd.ntmps118
        go_upto_region 1 with fail
        generalize w.alloc (.cells #[.int .i64 k, .int .u8 (c : Int), .int .u8 (m : Int), .slice P ps.length pc, .string s, .slice D dt.length dc] 102) = w1 at *
        obtain ⟨a0, a1, a2, a3, a4, a5⟩ := six HK.out.1
        go_wp2_with fail
        refine (HC.out _ (HR.out.next HK.out.2)).mono ?_
        rintro e w2 ⟨rfl, hb2⟩
        have HB2 := Lib.hid (HK.out.2.trans (hb2.mono HK.out.2.size))
        clear hb2 a0 a1 a2 a3 a4 a5
        go_wp2_with fail
        go_ret
        exact ⟨rfl, HB2.out⟩
      · have t2 : decide ((dt.length : Int) ≤ 4096) = false := by simp; omega
        rw [decide_eq_false g2]
        clear g0 g1 g2
        go_enter Tryd.func118, Tryd.ntmps118
        go_upto_region 1 with fail
        generalize w.alloc (.cells #[.int .i64 k, .int .u8 (c : Int), .int .u8 (m : Int), .slice P ps.length pc, .string s, .slice D dt.length dc] 102) = w1 at *
        obtain ⟨a0, a1, a2, a3, a4, a5⟩ := six HK.out.1
        go_wp2_with fail
        go_ret
        exact ⟨rfl, HK.out.2⟩
    · have t1 : decide ((ps.length : Int) ≤ 30) = false := by simp; omega
      rw [decide_eq_false g1]
      clear g0 g1
      go_enter Tryd.func118, Tryd.ntmps118
      go_upto_region 1 with fail
      generalize w.alloc (.cells #[.int .i64 k, .int .u8 (c : Int), .int .u8 (m : Int), .slice P ps.length pc, .string s, .slice D dt.length dc] 102) = w1 at *
      obtain ⟨a0, a1, a2, a3, a4, a5⟩ := six HK.out.1
      go_wp2_with fail
      go_ret
      exact ⟨rfl, HK.out.2⟩
  · have t0 : decide ((s.size : Int) ≤ 3) = false := by simp; omega
    rw [decide_eq_false g0]
    clear g0
    go_enter Tryd.func118, Tryd.ntmps118
    go_upto_region 1 with fail
    generalize w.alloc (.cells #[.int .i64 k, .int .u8 (c : Int), .int .u8 (m : Int), .slice P ps.length pc, .string s, .slice D dt.length dc] 102) = w1 at *
    obtain ⟨a0, a1, a2, a3, a4, a5⟩ := six HK.out.1
    go_wp2_with fail
    go_ret
    exact ⟨rfl, HK.out.2⟩
set_option maxRecDepth 100000 in
set_option maxHeartbeats 8000000 in
theorem coded_any (k : Int) (c m : Nat) (P : Option Addr) (ps : List Int) (pc : Nat) (s : ByteArray) (D : Option Addr) (dt : List Nat) (dc : Nat) (hc : c < 256) (w : World) :
    Calls Tryd.prog 120 #[.agg (tkC k (c : Int) (m : Int) P ps pc s D dt dc)] w fun e w' => e = .returned (.bool (codedB k c s)) ∧ Below w.heap.size w w' := by
  have HA1 : Hid (∀ W, Calls Tryd.prog 122 #[.int .u8 (c : Int), .int .u8 32, .int .u8 126] W fun e w' => e = .returned (.bool (amongB c 32 126)) ∧ W = w') := Lib.hid (fun W => among_any c 32 126 W)
  have HA2 : Hid (∀ W, Calls Tryd.prog 122 #[.int .u8 (c : Int), .int .u8 1, .int .u8 31] W fun e w' => e = .returned (.bool (amongB c 1 31)) ∧ W = w') := Lib.hid (fun W => among_any c 1 31 W)
  have HA3 : Hid (∀ W, Calls Tryd.prog 122 #[.int .u8 (c : Int), .int .u8 48, .int .u8 126] W fun e w' => e = .returned (.bool (amongB c 48 126)) ∧ W = w') := Lib.hid (fun W => among_any c 48 126 W)
  have HA4 : Hid (∀ W, Calls Tryd.prog 122 #[.int .u8 (c : Int), .int .u8 64, .int .u8 126] W fun e w' => e = .returned (.bool (amongB c 64 126)) ∧ W = w') := Lib.hid (fun W => among_any c 64 126 W)
  have HLd := Lib.hid (fun W => leads_any c hc W)
  have HK := Lib.hid (K1.start w 102 (tkC k (c : Int) (m : Int) P ps pc s D dt dc))
  have e160 : decide ((160 : Int) ≤ (c : Int)) = decide (160 ≤ c) := by simp; omega
  have e24 : ((c : Int) != 24) = (c != 24) := by rw [Bool.eq_iff_iff, bne_iff_ne, bne_iff_ne]; omega
  have e27 : ((c : Int) != 27) = (c != 27) := by rw [Bool.eq_iff_iff, bne_iff_ne, bne_iff_ne]; omega
  unfold codedB
  unfold tkC at *
  generalize decide (160 ≤ c) = b160 at *
  generalize (c != 24) = b24 at *
  generalize (c != 27) = b27 at *
  generalize amongB c 32 126 = q1 at *
  generalize amongB c 1 31 = q2 at *
  generalize amongB c 48 126 = q3 at *
  generalize amongB c 64 126 = q4 at *
  generalize leadsB c = ql at *
  clear hc
  by_cases k1 : k = 1
  · subst k1; rw [if_pos rfl]
    rcases q1 with _ | _
    all_goals
      go_enter Tryd.func120, Tryd.ntmps120
      go_upto_region 1 with fail
      generalize w.alloc (.cells #[.int .i64 1, .int .u8 (c : Int), .int .u8 (m : Int), .slice P ps.length pc, .string s, .slice D dt.length dc] 102) = w1 at *
      obtain ⟨a0, a1, a2, a3, a4, a5⟩ := six HK.out.1
      go_wp2_with fail
      refine (HA1.out _).mono ?_
      rintro e w2 ⟨rfl, rfl⟩
      go_wp2_with fail
      go_ret
      exact ⟨rfl, HK.out.2⟩
  · by_cases k2 : k = 2
    · subst k2; rw [if_neg (by omega), if_pos rfl]
      rcases q2 with _ | _
      · skip
        go_enter Tryd.func120, Tryd.ntmps120
        go_upto_region 1 with fail
        generalize w.alloc (.cells #[.int .i64 2, .int .u8 (c : Int), .int .u8 (m : Int), .slice P ps.length pc, .string s, .slice D dt.length dc] 102) = w1 at *
        obtain ⟨a0, a1, a2, a3, a4, a5⟩ := six HK.out.1
        go_wp2_with fail
        refine (HA2.out _).mono ?_
        rintro e w2 ⟨rfl, rfl⟩
        go_wp2_with fail
        go_ret
        exact ⟨rfl, HK.out.2⟩
      · rcases b24 with _ | _
        all_goals
          go_enter Tryd.func120, Tryd.ntmps120
          go_upto_region 1 with fail
          generalize w.alloc (.cells #[.int .i64 2, .int .u8 (c : Int), .int .u8 (m : Int), .slice P ps.length pc, .string s, .slice D dt.length dc] 102) = w1 at *
          obtain ⟨a0, a1, a2, a3, a4, a5⟩ := six HK.out.1
          go_wp2_with fail
          refine (HA2.out _).mono ?_
          rintro e w2 ⟨rfl, rfl⟩
          go_wp2_with fail
          go_ret
          exact ⟨rfl, HK.out.2⟩
    · by_cases k3 : k = 3
      · subst k3; rw [if_neg (by omega), if_neg (by omega), if_pos rfl]
        rcases q3 with _ | _
        · skip
          go_enter Tryd.func120, Tryd.ntmps120
          go_upto_region 1 with fail
          generalize w.alloc (.cells #[.int .i64 3, .int .u8 (c : Int), .int .u8 (m : Int), .slice P ps.length pc, .string s, .slice D dt.length dc] 102) = w1 at *
          obtain ⟨a0, a1, a2, a3, a4, a5⟩ := six HK.out.1
          go_wp2_with fail
          refine (HA3.out _).mono ?_
          rintro e w2 ⟨rfl, rfl⟩
          go_wp2_with fail
          go_ret
          exact ⟨rfl, HK.out.2⟩
        · by_cases hs : s.size = 0
          · rw [decide_eq_true hs]
            have hnil : s.toList = [] := by rw [ByteArray.toList_eq]; exact List.length_eq_zero_iff.1 hs
            clear hs
            go_enter Tryd.func120, Tryd.ntmps120
            go_upto_region 1 with fail
            generalize w.alloc (.cells #[.int .i64 3, .int .u8 (c : Int), .int .u8 (m : Int), .slice P ps.length pc, .string s, .slice D dt.length dc] 102) = w1 at *
            obtain ⟨a0, a1, a2, a3, a4, a5⟩ := six HK.out.1
            go_wp2_with fail
            refine (HA3.out _).mono ?_
            rintro e w2 ⟨rfl, rfl⟩
            go_wp2_with fail
            refine (HLd.out _).mono ?_
            rintro e w3 ⟨rfl, rfl⟩
            go_wp2_with fail
            go_ret
            exact ⟨rfl, HK.out.2⟩
          · rw [decide_eq_false hs]
            have hnil : (s.toList != []) = true := by rw [ByteArray.toList_eq, bne_iff_ne]; intro e; apply hs; show s.data.toList.length = 0; rw [e]; rfl
            have hnil2 : s.toList.isEmpty = false := by rw [ByteArray.toList_eq]; rw [ByteArray.toList_eq] at hnil; cases h : s.data.toList with | nil => rw [h] at hnil; cases hnil | cons a b => rfl
            clear hs
            go_enter Tryd.func120, Tryd.ntmps120
            go_upto_region 1 with fail
            generalize w.alloc (.cells #[.int .i64 3, .int .u8 (c : Int), .int .u8 (m : Int), .slice P ps.length pc, .string s, .slice D dt.length dc] 102) = w1 at *
            obtain ⟨a0, a1, a2, a3, a4, a5⟩ := six HK.out.1
            go_wp2_with fail
            refine (HA3.out _).mono ?_
            rintro e w2 ⟨rfl, rfl⟩
            go_wp2_with fail
            go_ret
            exact ⟨rfl, HK.out.2⟩
      · by_cases k4 : k = 4
        · subst k4; rw [if_neg (by omega), if_neg (by omega), if_neg (by omega), if_pos (.inl rfl)]
          go_enter Tryd.func120, Tryd.ntmps120
          go_upto_region 1 with fail
          generalize w.alloc (.cells #[.int .i64 4, .int .u8 (c : Int), .int .u8 (m : Int), .slice P ps.length pc, .string s, .slice D dt.length dc] 102) = w1 at *
          obtain ⟨a0, a1, a2, a3, a4, a5⟩ := six HK.out.1
          go_wp2_with fail
          refine (HA4.out _).mono ?_
          rintro e w2 ⟨rfl, rfl⟩
          go_wp2_with fail
          go_ret
          exact ⟨rfl, HK.out.2⟩
        · by_cases k5 : k = 5
          · subst k5; rw [if_neg (by omega), if_neg (by omega), if_neg (by omega), if_pos (.inr rfl)]
            go_enter Tryd.func120, Tryd.ntmps120
            go_upto_region 1 with fail
            generalize w.alloc (.cells #[.int .i64 5, .int .u8 (c : Int), .int .u8 (m : Int), .slice P ps.length pc, .string s, .slice D dt.length dc] 102) = w1 at *
            obtain ⟨a0, a1, a2, a3, a4, a5⟩ := six HK.out.1
            go_wp2_with fail
            refine (HA4.out _).mono ?_
            rintro e w2 ⟨rfl, rfl⟩
            go_wp2_with fail
            go_ret
            exact ⟨rfl, HK.out.2⟩
          · rw [if_neg k1, if_neg k2, if_neg k3, if_neg (by omega)]
            have n1 : (k == 1) = false := by simpa using k1
            have n2 : (k == 2) = false := by simpa using k2
            have n3 : (k == 3) = false := by simpa using k3
            have n4 : (k == 4) = false := by simpa using k4
            have n5 : (k == 5) = false := by simpa using k5
            clear k1 k2 k3 k4 k5
            go_enter Tryd.func120, Tryd.ntmps120
            go_upto_region 1 with fail
            generalize w.alloc (.cells #[.int .i64 k, .int .u8 (c : Int), .int .u8 (m : Int), .slice P ps.length pc, .string s, .slice D dt.length dc] 102) = w1 at *
            obtain ⟨a0, a1, a2, a3, a4, a5⟩ := six HK.out.1
            go_wp2_with fail
            go_ret
            exact ⟨rfl, HK.out.2⟩
end Go.Proofs.YthldjjmfiaeekaaDoor

/-
  Tokens: can it be?
-/
import Derived.Test.YthldjjmfiaeekaaDoorTokF
namespace Go.Proofs.YthldjjmfiaeekaaDoor

open Go Go.RowKit

def checkP (k : Int) (c m : Nat) (ps : List Int) (s : ByteArray) (dt : List Nat) : Int :=
  if k < 1 ∨ 9 < k then 1
  else if smallB ps s dt = false then 2
  else if (pureB k c m ps s dt && (codedB k c s && writtenB m s dt)) = false then 3
  else 0
set_option maxRecDepth 100000 in
set_option maxHeartbeats 8000000 in
theorem check_any (k : Int) (c m : Nat) (P : Option Addr) (ps : List Int) (pc : Nat) (s : ByteArray) (D : Option Addr) (dt : List Nat) (dc : Nat) (hc : c < 256) (hsz : s.size ≤ maxLen) (hp : ps.length ≤ maxLen) (hd : dt.length ≤ maxLen) (w : World) (hr : RInts w P ps) (hb : RByt w D dt) :
    Calls Tryd.prog 102 #[.agg (tkC k (c : Int) (m : Int) P ps pc s D dt dc)] w fun e w' => e = .returned (.int .i64 (checkP k c m ps s dt)) ∧ Below w.heap.size w w' := by
  have HS := Lib.hid (fun W h => small_any k c m P ps pc s D dt dc hp W h)
  have HPu := Lib.hid (fun W h1 h2 => pure_any k c m P ps pc s D dt dc hp W h1 h2)
  have HCo := Lib.hid (fun W => coded_any k c m P ps pc s D dt dc hc W)
  have HWr := Lib.hid (fun W h => written_any k c m P ps pc s D dt dc hsz hd W h)
  have HR := Lib.hid hr; have HD := Lib.hid hb
  have HK := Lib.hid (K1.start w 102 (tkC k (c : Int) (m : Int) P ps pc s D dt dc))
  clear hr hb hc hsz hp hd
  unfold checkP
  unfold tkC at *
  generalize smallB ps s dt = q1 at *
  generalize pureB k c m ps s dt = q2 at *
  generalize codedB k c s = q3 at *
  generalize writtenB m s dt = q4 at *
  by_cases k1 : k < 1
  · rw [if_pos (.inl k1)]
    have t1 : decide (k < 1) = true := by simpa using k1
    clear k1
    go_enter Tryd.func102, Tryd.ntmps102
    go_upto_region 1 with fail
    generalize w.alloc (.cells #[.int .i64 k, .int .u8 (c : Int), .int .u8 (m : Int), .slice P ps.length pc, .string s, .slice D dt.length dc] 102) = w1 at *
    obtain ⟨a0, a1, a2, a3, a4, a5⟩ := six HK.out.1
    go_wp2_with fail
    go_ret
    exact ⟨rfl, HK.out.2⟩
  · by_cases k2 : 9 < k
    · rw [if_pos (.inr k2)]
      have t1 : decide (k < 1) = false := by simpa using k1
      have t2 : decide (9 < k) = true := by simpa using k2
      clear k1 k2
      go_enter Tryd.func102, Tryd.ntmps102
      go_upto_region 1 with fail
      generalize w.alloc (.cells #[.int .i64 k, .int .u8 (c : Int), .int .u8 (m : Int), .slice P ps.length pc, .string s, .slice D dt.length dc] 102) = w1 at *
      obtain ⟨a0, a1, a2, a3, a4, a5⟩ := six HK.out.1
      go_wp2_with fail
      go_ret
      exact ⟨rfl, HK.out.2⟩
    · rw [if_neg (by omega)]
      have t1 : decide (k < 1) = false := by simpa using k1
      have t2 : decide (9 < k) = false := by simpa using k2
      clear k1 k2
      go_enter Tryd.func102, Tryd.ntmps102
      go_upto_region 1 with fail
      generalize w.alloc (.cells #[.int .i64 k, .int .u8 (c : Int), .int .u8 (m : Int), .slice P ps.length pc, .string s, .slice D dt.length dc] 102) = w1 at *
      obtain ⟨a0, a1, a2, a3, a4, a5⟩ := six HK.out.1
      go_wp2_with fail
      refine (HS.out _ (HR.out.next HK.out.2)).mono ?_
      rintro e w2 ⟨rfl, hb2⟩
      have HK2 := Lib.hid (HK.out.next hb2)
      clear hb2 a0 a1 a2 a3 a4 a5 HK t1 t2
      obtain ⟨a0, a1, a2, a3, a4, a5⟩ := six HK2.out.1
      rcases q1 with _ | _
      · go_wp2_with fail
        go_ret
        exact ⟨rfl, HK2.out.2⟩
      · go_wp2_with fail
        refine (HPu.out _ (HR.out.next HK2.out.2) (HD.out.next HK2.out.2)).mono ?_
        rintro e w3 ⟨rfl, hb3⟩
        have HK3 := Lib.hid (HK2.out.next hb3)
        clear hb3 a0 a1 a2 a3 a4 a5 HK2
        obtain ⟨a0, a1, a2, a3, a4, a5⟩ := six HK3.out.1
        rcases q2 with _ | _
        · go_wp2_with fail
          go_ret
          exact ⟨rfl, HK3.out.2⟩
        · go_wp2_with fail
          refine (HCo.out _).mono ?_
          rintro e w4 ⟨rfl, hb4⟩
          have HK4 := Lib.hid (HK3.out.next hb4)
          clear hb4 a0 a1 a2 a3 a4 a5 HK3
          obtain ⟨a0, a1, a2, a3, a4, a5⟩ := six HK4.out.1
          rcases q3 with _ | _
          · go_wp2_with fail
            go_ret
            exact ⟨rfl, HK4.out.2⟩
          · go_wp2_with fail
            refine (HWr.out _ (HD.out.next HK4.out.2)).mono ?_
            rintro e w5 ⟨rfl, hb5⟩
            have HK5 := Lib.hid (HK4.out.next hb5)
            clear hb5 a0 a1 a2 a3 a4 a5 HK4
            rcases q4 with _ | _
            · go_wp2_with fail
              go_ret
              exact ⟨rfl, HK5.out.2⟩
            · go_wp2_with fail
              go_ret
              exact ⟨rfl, HK5.out.2⟩
end Go.Proofs.YthldjjmfiaeekaaDoor

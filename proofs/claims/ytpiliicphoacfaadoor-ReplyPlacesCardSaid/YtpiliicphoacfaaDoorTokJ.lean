/-
  Tokens: what kind of function one is; its bytes behind an escape.
-/
import Derived.Test.YtpiliicphoacfaaDoorTokI
namespace Go.Proofs.YtpiliicphoacfaaDoor

open Go Go.RowKit

def idP (k : Int) (c m : Nat) (s : ByteArray) : ByteArray := if 3 ≤ k ∧ k ≤ 5 then bstr (signsL c m [] s) else ⟨#[]⟩
theorem K1.set {w W : World} {T : TypeId} {x : Array Value} (h : K1 w T x W) (i : Nat) (v : Value) : K1 w T (x.setIfInBounds i v) (W.setCell ⟨w.heap.size, i, none⟩ v) := ⟨h.1.set_ i v, h.2.setCell (p := ⟨w.heap.size, i, none⟩) (by simp) v⟩
set_option maxRecDepth 100000 in
set_option maxHeartbeats 8000000 in
theorem id_any (k : Int) (c m : Nat) (P : Option Addr) (ps : List Int) (pc : Nat) (s : ByteArray) (D : Option Addr) (dt : List Nat) (dc : Nat) (hsz : s.size ≤ 140737488351232) (w : World) (ht : Ten w) :
    Calls Tryd.prog 16 #[.agg (tkC k (c : Int) (m : Int) P ps pc s D dt dc)] w fun e w' => e = .returned (.string (idP k c m s)) ∧ Below w.heap.size w w' := by
  have HS : Hid (∀ W, Ten W → Calls Tryd.prog 23 #[.agg #[.int .i64 k, .int .u8 (c : Int), .int .u8 (m : Int), .slice none 0 0, .string s, .slice D dt.length dc]] W fun e w' => ∃ v, e = .returned v ∧ OByt w' (W.heap.size + 1) v (signsL c m [] s) ∧ Below W.heap.size W w') := Lib.hid (fun W t => signs_any k c m none [] 0 s D dt dc (by decide) (by decide) hsz W t (rints_nil W))
  have HT := Lib.hid ht
  have HK := Lib.hid (K1.start w 29 (tkC k (c : Int) (m : Int) P ps pc s D dt dc))
  clear ht hsz
  unfold idP
  generalize signsL c m [] s = l at *
  unfold tkC at *
  by_cases hk : 3 ≤ k ∧ k ≤ 5
  · rw [if_pos hk]
    have hks : k = 3 ∨ k = 4 ∨ k = 5 := by omega
    clear hk
    rcases hks with rfl | rfl | rfl
    · skip
      go_enter Tryd.func16, Tryd.ntmps16
      go_upto_region 1 with fail
      generalize w.alloc (.cells #[.int .i64 3, .int .u8 (c : Int), .int .u8 (m : Int), .slice P ps.length pc, .string s, .slice D dt.length dc] 29) = w1 at *
      obtain ⟨a0, a1, a2, a3, a4, a5⟩ := six HK.out.1
      obtain ⟨f0, f1, f2, f3, f4, f5⟩ := six_fr HK.out.1
      have HK2 := Lib.hid (HK.out.set 3 (.slice none 0 0))
      simp only [List.setIfInBounds_toArray, List.set_cons_zero, List.set_cons_succ] at HK2
      go_upto_region 6 with fail
      clear a0 a1 a2 a3 a4 a5 f0 f1 f2 f3 f4 f5
      generalize w1.setCell ⟨w.heap.size, 3, none⟩ (.slice none 0 0) = w2 at *
      obtain ⟨a0, a1, a2, a3, a4, a5⟩ := six HK2.out.1
      go_wp2_with fail
      refine (HS.out _ (HT.out.next HK2.out.2)).mono ?_
      rintro e w3 ⟨v, rfl, ho, hb3⟩
      have HB3 := Lib.hid (HK2.out.2.trans (hb3.mono HK2.out.2.size))
      obtain ⟨A1, c1, rfl⟩ := ho.form
      have hcv := conv_by ho.reads c1
      clear hb3 a0 a1 a2 a3 a4 a5 ho
      go_wp2_with fail
      go_ret
      exact ⟨rfl, HB3.out⟩
    · skip
      go_enter Tryd.func16, Tryd.ntmps16
      go_upto_region 1 with fail
      generalize w.alloc (.cells #[.int .i64 4, .int .u8 (c : Int), .int .u8 (m : Int), .slice P ps.length pc, .string s, .slice D dt.length dc] 29) = w1 at *
      obtain ⟨a0, a1, a2, a3, a4, a5⟩ := six HK.out.1
      obtain ⟨f0, f1, f2, f3, f4, f5⟩ := six_fr HK.out.1
      have HK2 := Lib.hid (HK.out.set 3 (.slice none 0 0))
      simp only [List.setIfInBounds_toArray, List.set_cons_zero, List.set_cons_succ] at HK2
      go_upto_region 6 with fail
      clear a0 a1 a2 a3 a4 a5 f0 f1 f2 f3 f4 f5
      generalize w1.setCell ⟨w.heap.size, 3, none⟩ (.slice none 0 0) = w2 at *
      obtain ⟨a0, a1, a2, a3, a4, a5⟩ := six HK2.out.1
      go_wp2_with fail
      refine (HS.out _ (HT.out.next HK2.out.2)).mono ?_
      rintro e w3 ⟨v, rfl, ho, hb3⟩
      have HB3 := Lib.hid (HK2.out.2.trans (hb3.mono HK2.out.2.size))
      obtain ⟨A1, c1, rfl⟩ := ho.form
      have hcv := conv_by ho.reads c1
      clear hb3 a0 a1 a2 a3 a4 a5 ho
      go_wp2_with fail
      go_ret
      exact ⟨rfl, HB3.out⟩
    · skip
      go_enter Tryd.func16, Tryd.ntmps16
      go_upto_region 1 with fail
      generalize w.alloc (.cells #[.int .i64 5, .int .u8 (c : Int), .int .u8 (m : Int), .slice P ps.length pc, .string s, .slice D dt.length dc] 29) = w1 at *
      obtain ⟨a0, a1, a2, a3, a4, a5⟩ := six HK.out.1
      obtain ⟨f0, f1, f2, f3, f4, f5⟩ := six_fr HK.out.1
      have HK2 := Lib.hid (HK.out.set 3 (.slice none 0 0))
      simp only [List.setIfInBounds_toArray, List.set_cons_zero, List.set_cons_succ] at HK2
      go_upto_region 6 with fail
      clear a0 a1 a2 a3 a4 a5 f0 f1 f2 f3 f4 f5
      generalize w1.setCell ⟨w.heap.size, 3, none⟩ (.slice none 0 0) = w2 at *
      obtain ⟨a0, a1, a2, a3, a4, a5⟩ := six HK2.out.1
      go_wp2_with fail
      refine (HS.out _ (HT.out.next HK2.out.2)).mono ?_
      rintro e w3 ⟨v, rfl, ho, hb3⟩
      have HB3 := Lib.hid (HK2.out.2.trans (hb3.mono HK2.out.2.size))
      obtain ⟨A1, c1, rfl⟩ := ho.form
      have hcv := conv_by ho.reads c1
      clear hb3 a0 a1 a2 a3 a4 a5 ho
      go_wp2_with fail
      go_ret
      exact ⟨rfl, HB3.out⟩
  · rw [if_neg hk]
    have n3 : (k == 3) = false := by simp; omega
    have n4 : (k == 4) = false := by simp; omega
    have n5 : (k == 5) = false := by simp; omega
    clear hk
    go_enter Tryd.func16, Tryd.ntmps16
    go_upto_region 1 with fail
    generalize w.alloc (.cells #[.int .i64 k, .int .u8 (c : Int), .int .u8 (m : Int), .slice P ps.length pc, .string s, .slice D dt.length dc] 29) = w1 at *
    obtain ⟨a0, a1, a2, a3, a4, a5⟩ := six HK.out.1
    go_wp2_with fail
    go_ret
    exact ⟨rfl, HK.out.2⟩
def escL (c m : Nat) (ps : List Int) (s : ByteArray) (eight : Bool) : List Nat := if s.size = 0 then leadL c eight else 27 :: signsL c m ps s
set_option maxRecDepth 100000 in
set_option maxHeartbeats 8000000 in
theorem escaped_any (k : Int) (c m : Nat) (P : Option Addr) (ps : List Int) (pc : Nat) (s : ByteArray) (D : Option Addr) (dt : List Nat) (dc : Nat) (hc : c < 256) (hp : ps.length ≤ maxLen) (hpc : ps.length ≤ pc) (hsz : s.size ≤ 140737488351232) (eight : Bool) (w : World) (ht : Ten w) (hr : RInts w P ps) :
    Calls Tryd.prog 21 #[.agg (tkC k (c : Int) (m : Int) P ps pc s D dt dc), .bool eight] w fun e w' => ∃ v, e = .returned v ∧ OByt w' (w.heap.size + 1) v (escL c m ps s eight) ∧ Below w.heap.size w w' := by
  have HS := Lib.hid (fun W t h => signs_any k c m P ps pc s D dt dc hp hpc hsz W t h)
  have HL := Lib.hid (fun W => lead_any c hc eight W)
  have HT := Lib.hid ht; have HR := Lib.hid hr
  have HK := Lib.hid (K1.start w 29 (tkC k (c : Int) (m : Int) P ps pc s D dt dc))
  have HLn : Hid ((signsL c m ps s).length ≤ 140737488351500) := Lib.hid (by
    have := fmt_len ps
    unfold signsL
    simp only [List.length_append, natL_len, dlen, List.length_cons, List.length_nil]
    split
    · simp; omega
    · simp; omega)
  obtain ⟨i0, hi0, hz0, hz1, hz2⟩ := info_u8
  have HI := Lib.hid hi0; have HZ0 := Lib.hid hz0; have HZ1 := Lib.hid hz1; have HZ2 := Lib.hid hz2
  clear ht hr hp hpc hsz hc hi0 hz0 hz1 hz2
  unfold escL
  unfold tkC at *
  generalize signsL c m ps s = l at *
  generalize leadL c eight = q at *
  by_cases hs : s.size = 0
  · rw [if_pos hs]
    have hnil : s.toList = [] := by rw [ByteArray.toList_eq]; exact List.length_eq_zero_iff.1 hs
    clear hs
    go_enter Tryd.func21, Tryd.ntmps21
    go_upto_region 1 with fail
    generalize w.alloc (.cells #[.int .i64 k, .int .u8 (c : Int), .int .u8 (m : Int), .slice P ps.length pc, .string s, .slice D dt.length dc] 29) = w1 at *
    obtain ⟨a0, a1, a2, a3, a4, a5⟩ := six HK.out.1
    go_wp2_with fail
    refine (HL.out _).mono ?_
    rintro e w2 ⟨v, rfl, ho, hb2⟩
    have HB2 := Lib.hid (HK.out.2.trans (hb2.mono HK.out.2.size))
    have HO := Lib.hid (own_base (obyt_own ho) (b' := w.heap.size + 1) (by have := Blk.lt HK.out.1; omega))
    clear hb2 a0 a1 a2 a3 a4 a5 ho
    go_wp2_with fail
    go_ret
    exact ⟨v, rfl, HO.out, HB2.out⟩
  · rw [if_neg hs]
    have hnil2 : s.toList.isEmpty = false := by rw [ByteArray.toList_eq]; cases h : s.data.toList with | nil => exact absurd (by rw [← dlen, h]; rfl) hs | cons a b => rfl
    have hnil : (s.toList == []) = false := by cases h : s.toList with | nil => rw [h] at hnil2; cases hnil2 | cons a b => rfl
    clear hs
    go_enter Tryd.func21, Tryd.ntmps21
    go_upto_region 1 with fail
    generalize w.alloc (.cells #[.int .i64 k, .int .u8 (c : Int), .int .u8 (m : Int), .slice P ps.length pc, .string s, .slice D dt.length dc] 29) = w1 at *
    obtain ⟨a0, a1, a2, a3, a4, a5⟩ := six HK.out.1
    have hk1 := Blk.lt HK.out.1
    have HO1 : Hid (OByt (w1.alloc (.cells #[.int .u8 27] 5)) (w.heap.size + 1) (.slice (some ⟨w1.heap.size, 0, none⟩) 1 1) [27]) := Lib.hid (World.ownsRow_lit (e := 5) (size := 1) w1 #[.int .u8 27] 1 (by omega) (by unfold maxLen; omega) rfl)
    have HK1 := Lib.hid (K1.next HK.out ((Below.refl _ _).alloc (Nat.le_refl _) (.cells #[.int .u8 27] 5)))
    have HW1 : Hid (w.heap.size + 1 ≤ (w1.alloc (.cells #[.int .u8 27] 5)).heap.size) := Lib.hid (by simp; omega)
    clear hk1 a0 a1 a2 a3 a4 a5
    obtain ⟨a0, a1, a2, a3, a4, a5⟩ := six HK.out.1
    obtain ⟨b0, b1, b2, b3, b4, b5⟩ := six HK1.out.1
    go_wp2_with fail
    generalize w1.alloc (.cells #[.int .u8 27] 5) = w2 at *
    refine (HS.out _ (HT.out.next HK1.out.2) (HR.out.next HK1.out.2)).mono ?_
    rintro e w3 ⟨v, rfl, ho, hb3⟩
    have HK3 := Lib.hid (HK1.out.next hb3)
    have HO3 := Lib.hid (HO1.out.next hb3)
    have HW3 := Lib.hid (Nat.le_trans HW1.out hb3.size)
    obtain ⟨A1, c1, rfl⟩ := ho.form
    have HRd := Lib.hid ho.reads
    clear hb3 a0 a1 a2 a3 a4 a5 b0 b1 b2 b3 b4 b5 ho HO1 HK1 HW1
    go_wp2_with (at_builtin; refine wpList_append_any _ rfl _ _ 24 rfl (w.heap.size + 1) 5 i0 _ 1 1 Tryd.underlying24 HI.out HZ0.out HZ1.out HZ2.out rfl (by decide) _ _ _ rfl (obyt_own HO3.out) w3.heap.size A1 l.length c1 _ rfl HRd.out (oby_one l) (by have := HLn.out; unfold maxLen; simp; omega) (by have := HLn.out; simp; omega) HW3.out ?_; intro v4 w4 hown4 hg4 hat4)
    have HB4 := Lib.hid (HK3.out.2.trans ((below_str HO3.out HW3.out hg4).mono (by omega)))
    go_ret
    exact ⟨v4, rfl, by have := hown4; unfold OByt; simpa [Nat.add_comm] using this, HB4.out⟩
end Go.Proofs.YtpiliicphoacfaaDoor

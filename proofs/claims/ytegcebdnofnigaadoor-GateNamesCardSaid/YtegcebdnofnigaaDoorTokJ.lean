/-
  Tokens: what kind of function one is; its bytes behind an escape.
-/
import Derived.Test.YtegcebdnofnigaaDoorTokI
namespace Go.Proofs.YtegcebdnofnigaaDoor

open Go Go.RowKit

def idP (k : Int) (c m : Nat) (s : ByteArray) : ByteArray := if 3 ≤ k ∧ k ≤ 5 then bstr (signsL c m [] s) else ⟨#[]⟩
theorem K1.set {w W : World} {T : TypeId} {x : Array Value} (h : K1 w T x W) (i : Nat) (v : Value) : K1 w T (x.setIfInBounds i v) (W.setCell ⟨w.heap.size, i, none⟩ v) := ⟨h.1.set_ i v, h.2.setCell (p := ⟨w.heap.size, i, none⟩) (by simp) v⟩
set_option maxRecDepth 100000 in
set_option maxHeartbeats 8000000 in
theorem id_any (k : Int) (c m : Nat) (P : Option Addr) (ps : List Int) (pc : Nat) (s : ByteArray) (D : Option Addr) (dt : List Nat) (dc : Nat) (hsz : s.size ≤ 140737488351232) (w : World) (ht : Ten w) :
    Calls Tryd.prog 13 #[.agg (tkC k (c : Int) (m : Int) P ps pc s D dt dc)] w fun e w' => e = .returned (.string (idP k c m s)) ∧ Below w.heap.size w w' := by
  have HS : Hid (∀ W, Ten W → Calls Tryd.prog 21 #[.agg #[.int .i64 k, .int .u8 (c : Int), .int .u8 (m : Int), .slice none 0 0, .string s, .slice D dt.length dc]] W fun e w' => ∃ v, e = .returned v ∧ OByt w' (W.heap.size + 1) v (signsL c m [] s) ∧ Below W.heap.size W w') := Lib.hid (fun W t => signs_any k c m none [] 0 s D dt dc (by decide) (by decide) hsz W t (rints_nil W))
  have HT := Lib.hid ht
  have HK := Lib.hid (K1.start w 32 (tkC k (c : Int) (m : Int) P ps pc s D dt dc))
  clear ht hsz
  unfold idP
  generalize signsL c m [] s = l at *
  unfold tkC at *
  by_cases hk : 3 ≤ k ∧ k ≤ 5
  · rw [if_pos hk]
    have hks : k = 3 ∨ k = 4 ∨ k = 5 := by omega
    clear hk
    rcases hks with rfl | rfl | rfl
    · skip
      go_enter Tryd.func13, Tryd.ntmps13
      go_upto_region 1 with fail
      generalize w.alloc (.cells #[.int .i64 3, .int .u8 (c : Int), .int .u8 (m : Int), .slice P ps.length pc, .string s, .slice D dt.length dc] 32) = w1 at *
      obtain ⟨a0, a1, a2, a3, a4, a5⟩ := six HK.out.1
      obtain ⟨f0, f1, f2, f3, f4, f5⟩ := six_fr HK.out.1
      have HK2 := Lib.hid (HK.out.set 3 (.slice none 0 0))
      simp only [List.setIfInBounds_toArray, List.set_cons_zero, List.set_cons_succ] at HK2
      go_upto_region 6 with fail
      clear a0 a1 a2 a3 a4 a5 f0 f1 f2 f3 f4 f5
      generalize w1.setCell ⟨w.heap.size, 3, none⟩ (.slice none 0 0) = w2 at *
      obtain ⟨a0, a1, a2, a3, a4, a5⟩ := six HK2.out.1
      go_wp2_with fail
      refine (HS.out _ (HT.out.next HK2.out.2)).mono ?_
      rintro e w3 ⟨v, rfl, ho, hb3⟩
      have HB3 := Lib.hid (HK2.out.2.trans (hb3.mono HK2.out.2.size))
      obtain ⟨A1, c1, rfl⟩ := ho.form
      have hcv := conv_by ho.reads c1
      clear hb3 a0 a1 a2 a3 a4 a5 ho
      go_wp2_with fail
      go_ret
      exact ⟨rfl, HB3.out⟩
    · skip
      go_enter Tryd.func13, Tryd.ntmps13
      go_upto_region 1 with fail
      generalize w.alloc (.cells #[.int .i64 4, .int .u8 (c : Int), .int .u8 (m : Int), .slice P ps.length pc, .string s, .slice D dt.length dc] 32) = w1 at *
      obtain ⟨a0, a1, a2, a3, a4, a5⟩ := six HK.out.1
      obtain ⟨f0, f1, f2, f3, f4, f5⟩ := six_fr HK.out.1
      have HK2 := Lib.hid (HK.out.set 3 (.slice none 0 0))
      simp only [List.setIfInBounds_toArray, List.set_cons_zero, List.set_cons_succ] at HK2
      go_upto_region 6 with fail
      clear a0 a1 a2 a3 a4 a5 f0 f1 f2 f3 f4 f5
      generalize w1.setCell ⟨w.heap.size, 3, none⟩ (.slice none 0 0) = w2 at *
      obtain ⟨a0, a1, a2, a3, a4, a5⟩ := six HK2.out.1
      go_wp2_with fail
      refine (HS.out _ (HT.out.next HK2.out.2)).mono ?_
      rintro e w3 ⟨v, rfl, ho, hb3⟩
      have HB3 := Lib.hid (HK2.out.2.trans (hb3.mono HK2.out.2.size))
      obtain ⟨A1, c1, rfl⟩ := ho.form
      have hcv := conv_by ho.reads c1
      clear hb3 a0 a1 a2 a3 a4 a5 ho
      go_wp2_with fail
      go_ret
      exact ⟨rfl, HB3.out⟩
    · skip
      go_enter Tryd.func13, Tryd.ntmps13
      go_upto_region 1 with fail
      generalize w.alloc (.cells #[.int .i64 5, .int .u8 (c : Int), .int .u8 (m : Int), .slice P ps.length pc, .string s, .slice D dt.length dc] 32) = w1 at *
      obtain ⟨a0, a1, a2, a3, a4, a5⟩ := six HK.out.1
      obtain ⟨f0, f1, f2, f3, f4, f5⟩ := six_fr HK.out.1
      have HK2 := Lib.hid (HK.out.set 3 (.slice none 0 0))
      simp only [List.setIfInBounds_toArray, List.set_cons_zero, List.set_cons_succ] at HK2
      go_upto_region 6 with fail
      clear a0 a1 a2 a3 a4 a5 f0 f1 f2 f3 f4 f5
      generalize w1.setCell ⟨w.heap.size, 3, none⟩ (.slice none 0 0) = w2 at *
      obtain ⟨a0, a1, a2, a3, a4, a5⟩ := six HK2.out.1
      go_wp2_with fail
      refine (HS.out _ (HT.out.next HK2.out.2)).mono ?_
      rintro e w3 ⟨v, rfl, ho, hb3⟩
      have HB3 := Lib.hid (HK2.out.2.trans (hb3.mono HK2.out.2.size))
      obtain ⟨A1, c1, rfl⟩ := ho.form
      have hcv := conv_by ho.reads c1
      clear hb3 a0 a1 a2 a3 a4 a5 ho
      go_wp2_with fail
      go_ret
      exact ⟨rfl, HB3.out⟩
  · rw [if_neg hk]
    have n3 : (k == 3) = false := by simp; omega
    have n4 : (k == 4) = false := by simp; omega
    have n5 : (k == 5) = false := by simp; omega
    clear hk
    go_enter Tryd.func13, Tryd.ntmps13
    go_upto_region 1 with fail
    generalize w.alloc (.cells #[.int .i64 k, .int .u8 (c : Int), .int .u8 (m : Int), .slice P ps.length pc, .string s, .slice D dt.length dc] 32) = w1 at *
    obtain ⟨a0, a1, a2, a3, a4, a5⟩ := six HK.out.1
    go_wp2_with fail
    go_ret
    exact ⟨rfl, HK.out.2⟩
def escL (c m : Nat) (ps : List Int) (s : ByteArray) (eight : Bool) : List Nat := if s.size = 0 then leadL c eight else 27 :: signsL c m ps s

end Go.Proofs.YtegcebdnofnigaaDoor

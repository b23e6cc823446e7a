/-
  Tokens: what kind of function one is; its bytes behind an escape.
  Tokens: their bytes.
  Tokens: one of the program's own made of the document's, and told.
  Tokens: what the reference says of bytes and of what begins a kind.
  Tokens: the reference's check.
  Tokens: what the reference's check answers.
  Tokens: both checks answer the same. Plain facts.
-/
import Derived.Test.YtfnamfkjbkhgeaaGreatDoorTokI
namespace Go.Proofs.YtfnamfkjbkhgeaaGreatDoor

open Go Go.RowKit

def idP (k : Int) (c m : Nat) (s : ByteArray) : ByteArray := if 3 ≤ k ∧ k ≤ 5 then bstr (signsL c m [] s) else ⟨#[]⟩
theorem K1.set {w W : World} {T : TypeId} {x : Array Value} (h : K1 w T x W) (i : Nat) (v : Value) : K1 w T (x.setIfInBounds i v) (W.setCell ⟨w.heap.size, i, none⟩ v) := ⟨h.1.set_ i v, h.2.setCell (p := ⟨w.heap.size, i, none⟩) (by simp) v⟩
set_option maxRecDepth 100000 in
set_option maxHeartbeats 8000000 in
theorem id_any (k : Int) (c m : Nat) (P : Option Addr) (ps : List Int) (pc : Nat) (s : ByteArray) (D : Option Addr) (dt : List Nat) (dc : Nat) (hsz : s.size ≤ 140737488351232) (w : World) (ht : Ten w) :
    Calls Tryz.prog 19 #[.agg (tkC k (c : Int) (m : Int) P ps pc s D dt dc)] w fun e w' => e = .returned (.string (idP k c m s)) ∧ Below w.heap.size w w' := by
  have HS : Hid (∀ W, Ten W → Calls Tryz.prog 56 #[.agg #[.int .i64 k, .int .u8 (c : Int), .int .u8 (m : Int), .slice none 0 0, .string s, .slice D dt.length dc]] W fun e w' => ∃ v, e = .returned v ∧ OByt w' (W.heap.size + 1) v (signsL c m [] s) ∧ Below W.heap.size W w') := Lib.hid (fun W t => signs_any k c m none [] 0 s D dt dc (by decide) (by decide) hsz W t (rints_nil W))
  have HT := Lib.hid ht
  have HK := Lib.hid (K1.start w 66 (tkC k (c : Int) (m : Int) P ps pc s D dt dc))
  clear ht hsz
  unfold idP
  generalize signsL c m [] s = l at *
  unfold tkC at *
  by_cases hk : 3 ≤ k ∧ k ≤ 5
  · rw [if_pos hk]
    have hks : k = 3 ∨ k = 4 ∨ k = 5 := by omega
    clear hk
    rcases hks with rfl | rfl | rfl
    · skip
      go_enter Tryz.func19, Tryz.ntmps19
      go_upto_region 1 with fail
      generalize w.alloc (.cells #[.int .i64 3, .int .u8 (c : Int), .int .u8 (m : Int), .slice P ps.length pc, .string s, .slice D dt.length dc] 66) = w1 at *
      obtain ⟨a0, a1, a2, a3, a4, a5⟩ := six HK.out.1
      obtain ⟨f0, f1, f2, f3, f4, f5⟩ := six_fr HK.out.1
      have HK2 := Lib.hid (HK.out.set 3 (.slice none 0 0))
      simp only [List.setIfInBounds_toArray, List.set_cons_zero, List.set_cons_succ] at HK2
      go_upto_region 6 with fail
      clear a0 a1 a2 a3 a4 a5 f0 f1 f2 f3 f4 f5
      generalize w1.setCell ⟨w.heap.size, 3, none⟩ (.slice none 0 0) = w2 at *
      obtain ⟨a0, a1, a2, a3, a4, a5⟩ := six HK2.out.1
      go_wp2_with fail
      refine (HS.out _ (HT.out.next HK2.out.2)).mono ?_
      rintro e w3 ⟨v, rfl, ho, hb3⟩
      have HB3 := Lib.hid (HK2.out.2.trans (hb3.mono HK2.out.2.size))
      obtain ⟨A1, c1, rfl⟩ := ho.form
      have hcv := conv_by ho.reads c1
      clear hb3 a0 a1 a2 a3 a4 a5 ho
      go_wp2_with fail
      go_ret
      exact ⟨rfl, HB3.out⟩
    · skip
      go_enter Tryz.func19, Tryz.ntmps19
      go_upto_region 1 with fail
      generalize w.alloc (.cells #[.int .i64 4, .int .u8 (c : Int), .int .u8 (m : Int), .slice P ps.length pc, .string s, .slice D dt.length dc] 66) = w1 at *
      obtain ⟨a0, a1, a2, a3, a4, a5⟩ := six HK.out.1
      obtain ⟨f0, f1, f2, f3, f4, f5⟩ := six_fr HK.out.1
      have HK2 := Lib.hid (HK.out.set 3 (.slice none 0 0))
      simp only [List.setIfInBounds_toArray, List.set_cons_zero, List.set_cons_succ] at HK2
      go_upto_region 6 with fail
      clear a0 a1 a2 a3 a4 a5 f0 f1 f2 f3 f4 f5
      generalize w1.setCell ⟨w.heap.size, 3, none⟩ (.slice none 0 0) = w2 at *
      obtain ⟨a0, a1, a2, a3, a4, a5⟩ := six HK2.out.1
      go_wp2_with fail
      refine (HS.out _ (HT.out.next HK2.out.2)).mono ?_
      rintro e w3 ⟨v, rfl, ho, hb3⟩
      have HB3 := Lib.hid (HK2.out.2.trans (hb3.mono HK2.out.2.size))
      obtain ⟨A1, c1, rfl⟩ := ho.form
      have hcv := conv_by ho.reads c1
      clear hb3 a0 a1 a2 a3 a4 a5 ho
      go_wp2_with fail
      go_ret
      exact ⟨rfl, HB3.out⟩
    · skip
      go_enter Tryz.func19, Tryz.ntmps19
      go_upto_region 1 with fail
      generalize w.alloc (.cells #[.int .i64 5, .int .u8 (c : Int), .int .u8 (m : Int), .slice P ps.length pc, .string s, .slice D dt.length dc] 66) = w1 at *
      obtain ⟨a0, a1, a2, a3, a4, a5⟩ := six HK.out.1
      obtain ⟨f0, f1, f2, f3, f4, f5⟩ := six_fr HK.out.1
      have HK2 := Lib.hid (HK.out.set 3 (.slice none 0 0))
      simp only [List.setIfInBounds_toArray, List.set_cons_zero, List.set_cons_succ] at HK2
      go_upto_region 6 with fail
      clear a0 a1 a2 a3 a4 a5 f0 f1 f2 f3 f4 f5
      generalize w1.setCell ⟨w.heap.size, 3, none⟩ (.slice none 0 0) = w2 at *
      obtain ⟨a0, a1, a2, a3, a4, a5⟩ := six HK2.out.1
      go_wp2_with fail
      refine (HS.out _ (HT.out.next HK2.out.2)).mono ?_
      rintro e w3 ⟨v, rfl, ho, hb3⟩
      have HB3 := Lib.hid (HK2.out.2.trans (hb3.mono HK2.out.2.size))
      obtain ⟨A1, c1, rfl⟩ := ho.form
      have hcv := conv_by ho.reads c1
      clear hb3 a0 a1 a2 a3 a4 a5 ho
      go_wp2_with fail
      go_ret
      exact ⟨rfl, HB3.out⟩
  · rw [if_neg hk]
    have n3 : (k == 3) = false := by simp; omega
    have n4 : (k == 4) = false := by simp; omega
    have n5 : (k == 5) = false := by simp; omega
    clear hk
    go_enter Tryz.func19, Tryz.ntmps19
    go_upto_region 1 with fail
    generalize w.alloc (.cells #[.int .i64 k, .int .u8 (c : Int), .int .u8 (m : Int), .slice P ps.length pc, .string s, .slice D dt.length dc] 66) = w1 at *
    obtain ⟨a0, a1, a2, a3, a4, a5⟩ := six HK.out.1
    go_wp2_with fail
    go_ret
    exact ⟨rfl, HK.out.2⟩
def escL (c m : Nat) (ps : List Int) (s : ByteArray) (eight : Bool) : List Nat := if s.size = 0 then leadL c eight else 27 :: signsL c m ps s
set_option maxRecDepth 100000 in
set_option maxHeartbeats 8000000 in
theorem escaped_any (k : Int) (c m : Nat) (P : Option Addr) (ps : List Int) (pc : Nat) (s : ByteArray) (D : Option Addr) (dt : List Nat) (dc : Nat) (hc : c < 256) (hp : ps.length ≤ maxLen) (hpc : ps.length ≤ pc) (hsz : s.size ≤ 140737488351232) (eight : Bool) (w : World) (ht : Ten w) (hr : RInts w P ps) :
    Calls Tryz.prog 126 #[.agg (tkC k (c : Int) (m : Int) P ps pc s D dt dc), .bool eight] w fun e w' => ∃ v, e = .returned v ∧ OByt w' (w.heap.size + 1) v (escL c m ps s eight) ∧ Below w.heap.size w w' := by
  have HS := Lib.hid (fun W t h => signs_any k c m P ps pc s D dt dc hp hpc hsz W t h)
  have HL := Lib.hid (fun W => lead_any c hc eight W)
  have HT := Lib.hid ht; have HR := Lib.hid hr
  have HK := Lib.hid (K1.start w 66 (tkC k (c : Int) (m : Int) P ps pc s D dt dc))
  have HLn : Hid ((signsL c m ps s).length ≤ 140737488351500) := Lib.hid (by
    have := fmt_len ps
    unfold signsL
    simp only [List.length_append, natL_len, dlen, List.length_cons, List.length_nil]
    split
    · simp; omega
    · simp; omega)
  obtain ⟨i0, hi0, hz0, hz1, hz2⟩ := info_u8
  have HI := Lib.hid hi0; have HZ0 := Lib.hid hz0; have HZ1 := Lib.hid hz1; have HZ2 := Lib.hid hz2
  clear ht hr hp hpc hsz hc hi0 hz0 hz1 hz2
  unfold escL
  unfold tkC at *
  generalize signsL c m ps s = l at *
  generalize leadL c eight = q at *
  by_cases hs : s.size = 0
  · rw [if_pos hs]
    have hnil : s.toList = [] := by rw [ByteArray.toList_eq]; exact List.length_eq_zero_iff.1 hs
    clear hs
    go_enter Tryz.func126, Tryz.ntmps126
    go_upto_region 1 with fail
    generalize w.alloc (.cells #[.int .i64 k, .int .u8 (c : Int), .int .u8 (m : Int), .slice P ps.length pc, .string s, .slice D dt.length dc] 66) = w1 at *
    obtain ⟨a0, a1, a2, a3, a4, a5⟩ := six HK.out.1
    go_wp2_with fail
    refine (HL.out _).mono ?_
    rintro e w2 ⟨v, rfl, ho, hb2⟩
    have HB2 := Lib.hid (HK.out.2.trans (hb2.mono HK.out.2.size))
    have HO := Lib.hid (own_base (obyt_own ho) (b' := w.heap.size + 1) (by have := Blk.lt HK.out.1; omega))
    clear hb2 a0 a1 a2 a3 a4 a5 ho
    go_wp2_with fail
    go_ret
    exact ⟨v, rfl, HO.out, HB2.out⟩
  · rw [if_neg hs]
    have hnil2 : s.toList.isEmpty = false := by rw [ByteArray.toList_eq]; cases h : s.data.toList with | nil => exact absurd (by rw [← dlen, h]; rfl) hs | cons a b => rfl
    have hnil : (s.toList == []) = false := by cases h : s.toList with | nil => rw [h] at hnil2; cases hnil2 | cons a b => rfl
    clear hs
    go_enter Tryz.func126, Tryz.ntmps126
    go_upto_region 1 with fail
    generalize w.alloc (.cells #[.int .i64 k, .int .u8 (c : Int), .int .u8 (m : Int), .slice P ps.length pc, .string s, .slice D dt.length dc] 66) = w1 at *
    obtain ⟨a0, a1, a2, a3, a4, a5⟩ := six HK.out.1
    have hk1 := Blk.lt HK.out.1
    have HO1 : Hid (OByt (w1.alloc (.cells #[.int .u8 27] 5)) (w.heap.size + 1) (.slice (some ⟨w1.heap.size, 0, none⟩) 1 1) [27]) := Lib.hid (World.ownsRow_lit (e := 5) (size := 1) w1 #[.int .u8 27] 1 (by omega) (by unfold maxLen; omega) rfl)
    have HK1 := Lib.hid (K1.next HK.out ((Below.refl _ _).alloc (Nat.le_refl _) (.cells #[.int .u8 27] 5)))
    have HW1 : Hid (w.heap.size + 1 ≤ (w1.alloc (.cells #[.int .u8 27] 5)).heap.size) := Lib.hid (by simp; omega)
    clear hk1 a0 a1 a2 a3 a4 a5
    obtain ⟨a0, a1, a2, a3, a4, a5⟩ := six HK.out.1
    obtain ⟨b0, b1, b2, b3, b4, b5⟩ := six HK1.out.1
    go_wp2_with fail
    generalize w1.alloc (.cells #[.int .u8 27] 5) = w2 at *
    refine (HS.out _ (HT.out.next HK1.out.2) (HR.out.next HK1.out.2)).mono ?_
    rintro e w3 ⟨v, rfl, ho, hb3⟩
    have HK3 := Lib.hid (HK1.out.next hb3)
    have HO3 := Lib.hid (HO1.out.next hb3)
    have HW3 := Lib.hid (Nat.le_trans HW1.out hb3.size)
    obtain ⟨A1, c1, rfl⟩ := ho.form
    have HRd := Lib.hid ho.reads
    clear hb3 a0 a1 a2 a3 a4 a5 b0 b1 b2 b3 b4 b5 ho HO1 HK1 HW1
    go_wp2_with (at_builtin; refine wpList_append_any _ rfl _ _ 63 rfl (w.heap.size + 1) 5 i0 _ 1 1 Tryz.underlying63 HI.out HZ0.out HZ1.out HZ2.out rfl (by decide) _ _ _ rfl (obyt_own HO3.out) w3.heap.size A1 l.length c1 _ rfl HRd.out (oby_one l) (by have := HLn.out; unfold maxLen; simp; omega) (by have := HLn.out; simp; omega) HW3.out ?_; intro v4 w4 hown4 hg4 hat4)
    have HB4 := Lib.hid (HK3.out.2.trans ((below_str HO3.out HW3.out hg4).mono (by omega)))
    go_ret
    exact ⟨v4, rfl, by have := hown4; unfold OByt; simpa [Nat.add_comm] using this, HB4.out⟩
end Go.Proofs.YtfnamfkjbkhgeaaGreatDoor

namespace Go.Proofs.YtfnamfkjbkhgeaaGreatDoor

open Go Go.RowKit

def begN (k : Int) : Nat := if k = 4 then 91 else if k = 5 then 80 else if k = 6 then 93 else if k = 7 then 88 else if k = 8 then 94 else 95
def bytesL (k : Int) (c m : Nat) (ps : List Int) (s : ByteArray) (dt : List Nat) (eight : Bool) : List Nat :=
  if k = 1 ∨ k = 2 then [c]
  else if k = 3 then escL c m ps s eight
  else leadL (begN k) eight ++ (if k = 4 ∨ k = 5 then signsL c m ps s else []) ++ (if k = 4 then [] else dt ++ leadL 92 eight)
theorem KO.append {w W W' : World} {x : Array Value} {v v' : Value} {l r : List Nat} (h : KO w x v l W) (ho : W'.ownsRow (w.heap.size + 1) 5 1 v' (l.length + r.length) (l.map (fun (n : Nat) => Value.int .u8 (n : Int)) ++ r.map (fun (n : Nat) => Value.int .u8 (n : Int)))) (hg : W.grownBy W' v.ownBlock) : KO w x v' (l ++ r) W' :=
  h.more (below_str h.2.2.1 h.2.2.2 hg) (by unfold OByt; rw [List.length_append, List.map_append]; exact ho)
theorem check_zero {k : Int} {c m : Nat} {ps : List Int} {s : ByteArray} {dt : List Nat} (h : checkP k c m ps s dt = 0) : 1 ≤ k ∧ k ≤ 9 ∧ s.size ≤ 3 ∧ ps.length ≤ 30 ∧ dt.length ≤ 4096 ∧ ps.any outB = false ∧ pureB k c m ps s dt = true ∧ codedB k c s = true ∧ writtenB m s dt = true := by
  unfold checkP at h
  split at h
  · cases h
  · rename_i h1
    split at h
    · cases h
    · rename_i h2
      split at h
      · cases h
      · rename_i h3
        simp only [Bool.not_eq_false, smallB, Bool.and_eq_true, decide_eq_true_eq, Bool.not_eq_true'] at h2 h3
        exact ⟨by omega, by omega, h2.1, h2.2.1, h2.2.2.1, h2.2.2.2, h3.1, h3.2.1, h3.2.2⟩
theorem lead_len (c : Nat) (e : Bool) : (leadL c e).length ≤ 2 := by unfold leadL; split <;> simp
theorem signs_len (c m : Nat) (ps : List Int) (s : ByteArray) (h : s.size ≤ 3) : (signsL c m ps s).length ≤ 190 := by
  have := fmt_len ps
  unfold signsL
  simp only [List.length_append, natL_len, dlen, List.length_cons, List.length_nil]
  split
  · simp; omega
  · simp; omega
/-- What is answered: an error and nothing, or the bytes. -/
def BytesR (w w' : World) (e : Ending) (k : Int) (c m : Nat) (ps : List Int) (s : ByteArray) (dt : List Nat) (eight : Bool) : Prop :=
  (checkP k c m ps s dt ≠ 0 ∧ e = .returned (.tuple #[.slice none 0 0, .int .i64 (checkP k c m ps s dt)])) ∨ (checkP k c m ps s dt = 0 ∧ ∃ v, e = .returned (.tuple #[v, .int .i64 0]) ∧ OByt w' (w.heap.size + 1) v (bytesL k c m ps s dt eight))
set_option maxRecDepth 100000 in
set_option maxHeartbeats 16000000 in
theorem bytes_any (k : Int) (c m : Nat) (P : Option Addr) (ps : List Int) (pc : Nat) (s : ByteArray) (D : Option Addr) (dt : List Nat) (dc : Nat) (hc : c < 256) (hsz : s.size ≤ maxLen) (hp : ps.length ≤ maxLen) (hpc : ps.length ≤ pc) (hd : dt.length ≤ maxLen) (eight : Bool) (w : World) (ht : Ten w) (hr : RInts w P ps) (hb : RByt w D dt) :
    Calls Tryz.prog 96 #[.agg (tkC k (c : Int) (m : Int) P ps pc s D dt dc), .bool eight] w fun e w' => BytesR w w' e k c m ps s dt eight ∧ Below w.heap.size w w' := by
  have HC := Lib.hid (fun W h1 h2 => check_any k c m P ps pc s D dt dc hc hsz hp hd W h1 h2)
  have HZero := Lib.hid (fun h => check_zero (k := k) (c := c) (m := m) (ps := ps) (s := s) (dt := dt) h)
  have HEs := Lib.hid (fun h W t g => escaped_any k c m P ps pc s D dt dc hc hp hpc h eight W t g)
  have HSg := Lib.hid (fun h W t g => signs_any k c m P ps pc s D dt dc hp hpc h W t g)
  have HLd := Lib.hid (fun n h W => lead_any n h eight W)
  have HSl := Lib.hid (fun h => signs_len c m ps s h)
  have HLl := Lib.hid (fun n => lead_len n eight)
  have HT := Lib.hid ht; have HR := Lib.hid hr; have HD := Lib.hid hb
  have HK := Lib.hid (K1.start w 66 (tkC k (c : Int) (m : Int) P ps pc s D dt dc))
  obtain ⟨i0, hi0, hz0, hz1, hz2⟩ := info_u8
  have HI := Lib.hid hi0; have HZ0 := Lib.hid hz0; have HZ1 := Lib.hid hz1; have HZ2 := Lib.hid hz2
  clear ht hr hb hsz hp hpc hd hi0 hz0 hz1 hz2
  unfold BytesR
  generalize checkP k c m ps s dt = ck at *
  have HB1 : Hid (k = 1 ∨ k = 2 → bytesL k c m ps s dt eight = [c]) := Lib.hid (fun h => if_pos h)
  have HB3 : Hid (k = 3 → bytesL k c m ps s dt eight = escL c m ps s eight) := Lib.hid (fun h => by subst h; rfl)
  have HB4 : Hid (k = 4 → bytesL k c m ps s dt eight = leadL 91 eight ++ signsL c m ps s) := Lib.hid (fun h => by subst h; show leadL 91 eight ++ signsL c m ps s ++ [] = _; rw [List.append_nil])
  have HB5 : Hid (k = 5 → bytesL k c m ps s dt eight = leadL 80 eight ++ signsL c m ps s ++ dt ++ leadL 92 eight) := Lib.hid (fun h => by subst h; show leadL 80 eight ++ signsL c m ps s ++ (dt ++ leadL 92 eight) = _; rw [List.append_assoc, List.append_assoc, List.append_assoc])
  have HB6 : Hid (∀ n, (k = 6 ∧ n = 93) ∨ (k = 7 ∧ n = 88) ∨ (k = 8 ∧ n = 94) ∨ (k = 9 ∧ n = 95) → bytesL k c m ps s dt eight = leadL n eight ++ dt ++ leadL 92 eight) := Lib.hid (fun n h => by
    rcases h with ⟨rfl, rfl⟩ | ⟨rfl, rfl⟩ | ⟨rfl, rfl⟩ | ⟨rfl, rfl⟩ <;> (show leadL _ eight ++ [] ++ (dt ++ leadL 92 eight) = _; rw [List.append_nil, List.append_assoc]; rfl))
  generalize bytesL k c m ps s dt eight = bl at *
  generalize escL c m ps s eight = el at *
  generalize signsL c m ps s = sl at *
  have HL92 : Hid (∀ W, Calls Tryz.prog 127 #[.int .u8 92, .bool eight] W fun e w' => ∃ v, e = .returned v ∧ OByt w' W.heap.size v (leadL 92 eight) ∧ Below W.heap.size W w') := Lib.hid (fun W => HLd.out 92 (by decide) W)
  have H92l := Lib.hid (HLl.out 92)
  generalize leadL 92 eight = l92 at *
  unfold tkC at *
  by_cases h0 : ck = 0
  · subst h0
    obtain ⟨z1, z2, z3, z4, z5, _, _, _, _⟩ := HZero.out rfl
    have HS3 := Lib.hid z3; have HD5 := Lib.hid z5
    have hks : k = 1 ∨ k = 2 ∨ k = 3 ∨ k = 4 ∨ k = 5 ∨ k = 6 ∨ k = 7 ∨ k = 8 ∨ k = 9 := by omega
    clear HZero z1 z2 z3 z4 z5
    rcases hks with rfl | rfl | rfl | rfl | rfl | rfl | rfl | rfl | rfl
    · skip
      have hbl := HB1.out (by simp)
      subst hbl
      go_enter Tryz.func96, Tryz.ntmps96
      go_upto_region 1 with fail
      generalize w.alloc (.cells #[.int .i64 1, .int .u8 (c : Int), .int .u8 (m : Int), .slice P ps.length pc, .string s, .slice D dt.length dc] 66) = w1 at *
      obtain ⟨a0, a1, a2, a3, a4, a5⟩ := six HK.out.1
      go_wp2_with fail
      refine (HC.out _ (HR.out.next HK.out.2) (HD.out.next HK.out.2)).mono ?_
      rintro e w2 ⟨rfl, hb2⟩
      have HK2 := Lib.hid (HK.out.next hb2)
      clear hb2 a0 a1 a2 a3 a4 a5 HK HC
      obtain ⟨a0, a1, a2, a3, a4, a5⟩ := six HK2.out.1
      have HO : Hid (OByt (w2.alloc (.cells #[.int .u8 (c : Int)] 5)) (w.heap.size + 1) (.slice (some ⟨w2.heap.size, 0, none⟩) 1 1) [c]) := Lib.hid (own_base (World.ownsRow_lit (e := 5) (size := 1) w2 #[.int .u8 (c : Int)] 1 (Nat.le_refl _) (by unfold maxLen; omega) rfl) (by have := Blk.lt HK2.out.1; omega))
      go_wp2_with fail
      exact bodyPost_ret (v := .tuple #[.slice (some ⟨w2.heap.size, 0, none⟩) 1 1, .int .i64 0]) (by simp [results, Tryz.results96, go_sem]) rfl ⟨.inr ⟨by simp, _, rfl, HO.out⟩, HK2.out.2.alloc HK2.out.2.size _⟩
    · skip
      have hbl := HB1.out (by simp)
      subst hbl
      go_enter Tryz.func96, Tryz.ntmps96
      go_upto_region 1 with fail
      generalize w.alloc (.cells #[.int .i64 2, .int .u8 (c : Int), .int .u8 (m : Int), .slice P ps.length pc, .string s, .slice D dt.length dc] 66) = w1 at *
      obtain ⟨a0, a1, a2, a3, a4, a5⟩ := six HK.out.1
      go_wp2_with fail
      refine (HC.out _ (HR.out.next HK.out.2) (HD.out.next HK.out.2)).mono ?_
      rintro e w2 ⟨rfl, hb2⟩
      have HK2 := Lib.hid (HK.out.next hb2)
      clear hb2 a0 a1 a2 a3 a4 a5 HK HC
      obtain ⟨a0, a1, a2, a3, a4, a5⟩ := six HK2.out.1
      have HO : Hid (OByt (w2.alloc (.cells #[.int .u8 (c : Int)] 5)) (w.heap.size + 1) (.slice (some ⟨w2.heap.size, 0, none⟩) 1 1) [c]) := Lib.hid (own_base (World.ownsRow_lit (e := 5) (size := 1) w2 #[.int .u8 (c : Int)] 1 (Nat.le_refl _) (by unfold maxLen; omega) rfl) (by have := Blk.lt HK2.out.1; omega))
      go_wp2_with fail
      exact bodyPost_ret (v := .tuple #[.slice (some ⟨w2.heap.size, 0, none⟩) 1 1, .int .i64 0]) (by simp [results, Tryz.results96, go_sem]) rfl ⟨.inr ⟨by simp, _, rfl, HO.out⟩, HK2.out.2.alloc HK2.out.2.size _⟩
    · skip
      have hbl := HB3.out (by simp)
      subst hbl
      go_enter Tryz.func96, Tryz.ntmps96
      go_upto_region 1 with fail
      generalize w.alloc (.cells #[.int .i64 3, .int .u8 (c : Int), .int .u8 (m : Int), .slice P ps.length pc, .string s, .slice D dt.length dc] 66) = w1 at *
      obtain ⟨a0, a1, a2, a3, a4, a5⟩ := six HK.out.1
      go_wp2_with fail
      refine (HC.out _ (HR.out.next HK.out.2) (HD.out.next HK.out.2)).mono ?_
      rintro e w2 ⟨rfl, hb2⟩
      have HK2 := Lib.hid (HK.out.next hb2)
      clear hb2 a0 a1 a2 a3 a4 a5 HK HC
      obtain ⟨a0, a1, a2, a3, a4, a5⟩ := six HK2.out.1
      go_wp2_with fail
      refine (HEs.out (by have := HS3.out; omega) _ (HT.out.next HK2.out.2) (HR.out.next HK2.out.2)).mono ?_
      rintro e w3 ⟨v, rfl, ho, hb3⟩
      have HO := Lib.hid (own_base (obyt_own ho) (b' := w.heap.size + 1) (by have := Blk.lt HK2.out.1; omega))
      have HB := Lib.hid (HK2.out.2.trans (hb3.mono HK2.out.2.size))
      clear ho hb3 a0 a1 a2 a3 a4 a5
      go_wp2_with fail
      exact bodyPost_ret (v := .tuple #[v, .int .i64 0]) (by simp [results, Tryz.results96, go_sem]) rfl ⟨.inr ⟨by simp, _, rfl, HO.out⟩, HB.out⟩
    · skip
      have hbl := HB4.out (by simp)
      subst hbl
      have HLn : Hid (∀ W, Calls Tryz.prog 127 #[.int .u8 91, .bool eight] W fun e w' => ∃ v, e = .returned v ∧ OByt w' W.heap.size v (leadL 91 eight) ∧ Below W.heap.size W w') := Lib.hid (fun W => HLd.out 91 (by decide) W)
      have HLc := Lib.hid (HLl.out 91)
      generalize leadL 91 eight = ln at *
      clear HLd HLl HB1 HB3 HB4 HB5 HB6 HEs
      go_enter Tryz.func96, Tryz.ntmps96
      go_upto_region 1 with fail
      generalize w.alloc (.cells #[.int .i64 4, .int .u8 (c : Int), .int .u8 (m : Int), .slice P ps.length pc, .string s, .slice D dt.length dc] 66) = w1 at *
      obtain ⟨a0, a1, a2, a3, a4, a5⟩ := six HK.out.1
      go_wp2_with fail
      refine (HC.out _ (HR.out.next HK.out.2) (HD.out.next HK.out.2)).mono ?_
      rintro e w2 ⟨rfl, hb2⟩
      have HK2 := Lib.hid (HK.out.next hb2)
      clear hb2 a0 a1 a2 a3 a4 a5 HK HC
      obtain ⟨a0, a1, a2, a3, a4, a5⟩ := six HK2.out.1
      go_wp2_with fail
      refine (HLn.out _).mono ?_
      rintro e w3 ⟨v3, rfl, ho, hb3⟩
      have HK3 : Hid (KO w #[.int .i64 4, .int .u8 (c : Int), .int .u8 (m : Int), .slice P ps.length pc, .string s, .slice D dt.length dc] v3 ln w3) := Lib.hid ⟨HK2.out.1.next hb3, HK2.out.2.trans (hb3.mono HK2.out.2.size), own_base (obyt_own ho) (by have := Blk.lt HK2.out.1; omega), by have := Blk.lt HK2.out.1; have := hb3.size; omega⟩
      clear ho hb3 a0 a1 a2 a3 a4 a5 HK2 HLn
      obtain ⟨a0, a1, a2, a3, a4, a5⟩ := six HK3.out.1
      go_wp2_with fail
      refine (HSg.out (by have := HS3.out; omega) _ (HT.out.next HK3.out.2.1) (HR.out.next HK3.out.2.1)).mono ?_
      rintro e w4 ⟨v4, rfl, ho, hb4⟩
      have HK4 := Lib.hid (HK3.out.next hb4)
      obtain ⟨A4, c4, rfl⟩ := ho.form
      have HRd4 := Lib.hid ho.reads
      have HSn := Lib.hid (HSl.out HS3.out)
      clear ho hb4 a0 a1 a2 a3 a4 a5 HK3 HSl
      go_wp2_with (at_builtin; refine wpList_append_any _ rfl _ _ 63 rfl (w.heap.size + 1) 5 i0 _ 1 1 Tryz.underlying63 HI.out HZ0.out HZ1.out HZ2.out rfl (by decide) _ _ _ rfl (obyt_own HK4.out.2.2.1) w4.heap.size A4 sl.length c4 _ rfl HRd4.out (oby_one sl) (by have := HLc.out; have := HSn.out; have := HD5.out; unfold maxLen; simp; omega) (by have := HLc.out; have := HSn.out; have := HD5.out; simp; omega) HK4.out.2.2.2 ?_; intro v' W' hown' hg' hat'; have HK5 := Lib.hid (KO.append HK4.out hown' hg'); clear hown' hg' hat'; clear HK4; obtain ⟨a0, a1, a2, a3, a4, a5⟩ := six HK5.out.1)
      exact bodyPost_ret (v := .tuple #[v', .int .i64 0]) (by simp [results, Tryz.results96, go_sem]) rfl ⟨.inr ⟨by simp, _, rfl, HK5.out.2.2.1⟩, HK5.out.2.1⟩
    · skip
      have hbl := HB5.out (by simp)
      subst hbl
      have HLn : Hid (∀ W, Calls Tryz.prog 127 #[.int .u8 80, .bool eight] W fun e w' => ∃ v, e = .returned v ∧ OByt w' W.heap.size v (leadL 80 eight) ∧ Below W.heap.size W w') := Lib.hid (fun W => HLd.out 80 (by decide) W)
      have HLc := Lib.hid (HLl.out 80)
      generalize leadL 80 eight = ln at *
      clear HLd HLl HB1 HB3 HB4 HB5 HB6 HEs
      go_enter Tryz.func96, Tryz.ntmps96
      go_upto_region 1 with fail
      generalize w.alloc (.cells #[.int .i64 5, .int .u8 (c : Int), .int .u8 (m : Int), .slice P ps.length pc, .string s, .slice D dt.length dc] 66) = w1 at *
      obtain ⟨a0, a1, a2, a3, a4, a5⟩ := six HK.out.1
      go_wp2_with fail
      refine (HC.out _ (HR.out.next HK.out.2) (HD.out.next HK.out.2)).mono ?_
      rintro e w2 ⟨rfl, hb2⟩
      have HK2 := Lib.hid (HK.out.next hb2)
      clear hb2 a0 a1 a2 a3 a4 a5 HK HC
      obtain ⟨a0, a1, a2, a3, a4, a5⟩ := six HK2.out.1
      go_wp2_with fail
      refine (HLn.out _).mono ?_
      rintro e w3 ⟨v3, rfl, ho, hb3⟩
      have HK3 : Hid (KO w #[.int .i64 5, .int .u8 (c : Int), .int .u8 (m : Int), .slice P ps.length pc, .string s, .slice D dt.length dc] v3 ln w3) := Lib.hid ⟨HK2.out.1.next hb3, HK2.out.2.trans (hb3.mono HK2.out.2.size), own_base (obyt_own ho) (by have := Blk.lt HK2.out.1; omega), by have := Blk.lt HK2.out.1; have := hb3.size; omega⟩
      clear ho hb3 a0 a1 a2 a3 a4 a5 HK2 HLn
      obtain ⟨a0, a1, a2, a3, a4, a5⟩ := six HK3.out.1
      go_wp2_with fail
      refine (HSg.out (by have := HS3.out; omega) _ (HT.out.next HK3.out.2.1) (HR.out.next HK3.out.2.1)).mono ?_
      rintro e w4 ⟨v4, rfl, ho, hb4⟩
      have HK4 := Lib.hid (HK3.out.next hb4)
      obtain ⟨A4, c4, rfl⟩ := ho.form
      have HRd4 := Lib.hid ho.reads
      have HSn := Lib.hid (HSl.out HS3.out)
      clear ho hb4 a0 a1 a2 a3 a4 a5 HK3 HSl
      go_wp2_with (at_builtin; first | (refine wpList_append_any _ rfl _ _ 63 rfl (w.heap.size + 1) 5 i0 _ 1 1 Tryz.underlying63 HI.out HZ0.out HZ1.out HZ2.out rfl (by decide) _ _ _ rfl (obyt_own HK5.out.2.2.1) _ D dt.length dc _ rfl (HD.out.next HK5.out.2.1) (oby_one dt) (by have := HLc.out; have := HSn.out; have := HD5.out; unfold maxLen; simp; omega) (by have := HLc.out; have := HSn.out; have := HD5.out; simp; omega) HK5.out.2.2.2 ?_; intro v' W' hown' hg' hat'; have HK6 := Lib.hid (KO.append HK5.out hown' hg'); clear hown' hg' hat'; clear HK5) | (refine wpList_append_any _ rfl _ _ 63 rfl (w.heap.size + 1) 5 i0 _ 1 1 Tryz.underlying63 HI.out HZ0.out HZ1.out HZ2.out rfl (by decide) _ _ _ rfl (obyt_own HK4.out.2.2.1) w4.heap.size A4 sl.length c4 _ rfl HRd4.out (oby_one sl) (by have := HLc.out; have := HSn.out; have := HD5.out; unfold maxLen; simp; omega) (by have := HLc.out; have := HSn.out; have := HD5.out; simp; omega) HK4.out.2.2.2 ?_; intro v' W' hown' hg' hat'; have HK5 := Lib.hid (KO.append HK4.out hown' hg'); clear hown' hg' hat'; clear HK4; obtain ⟨a0, a1, a2, a3, a4, a5⟩ := six HK5.out.1))
      refine (HL92.out _).mono ?_
      rintro e w7 ⟨v7, rfl, ho, hb7⟩
      have HK7 := Lib.hid (HK6.out.next hb7)
      obtain ⟨A7, c7, rfl⟩ := ho.form
      have HRd7 := Lib.hid ho.reads
      clear ho hb7 HK6
      go_wp2_with (at_builtin; refine wpList_append_any _ rfl _ _ 63 rfl (w.heap.size + 1) 5 i0 _ 1 1 Tryz.underlying63 HI.out HZ0.out HZ1.out HZ2.out rfl (by decide) _ _ _ rfl (obyt_own HK7.out.2.2.1) w7.heap.size A7 l92.length c7 _ rfl HRd7.out (oby_one l92) (by have := HLc.out; have := HSn.out; have := HD5.out; have := H92l.out; unfold maxLen; simp; omega) (by have := HLc.out; have := HSn.out; have := HD5.out; have := H92l.out; simp; omega) HK7.out.2.2.2 ?_; intro v' W' hown' hg' hat'; have HK8 := Lib.hid (KO.append HK7.out hown' hg'); clear hown' hg' hat'; clear HK7)
      exact bodyPost_ret (v := .tuple #[v', .int .i64 0]) (by simp [results, Tryz.results96, go_sem]) rfl ⟨.inr ⟨by simp, _, rfl, HK8.out.2.2.1⟩, HK8.out.2.1⟩
    · skip
      have hbl := HB6.out 93 (by simp)
      subst hbl
      have HLn : Hid (∀ W, Calls Tryz.prog 127 #[.int .u8 93, .bool eight] W fun e w' => ∃ v, e = .returned v ∧ OByt w' W.heap.size v (leadL 93 eight) ∧ Below W.heap.size W w') := Lib.hid (fun W => HLd.out 93 (by decide) W)
      have HLc := Lib.hid (HLl.out 93)
      generalize leadL 93 eight = ln at *
      clear HLd HLl HB1 HB3 HB4 HB5 HB6 HEs
      go_enter Tryz.func96, Tryz.ntmps96
      go_upto_region 1 with fail
      generalize w.alloc (.cells #[.int .i64 6, .int .u8 (c : Int), .int .u8 (m : Int), .slice P ps.length pc, .string s, .slice D dt.length dc] 66) = w1 at *
      obtain ⟨a0, a1, a2, a3, a4, a5⟩ := six HK.out.1
      go_wp2_with fail
      refine (HC.out _ (HR.out.next HK.out.2) (HD.out.next HK.out.2)).mono ?_
      rintro e w2 ⟨rfl, hb2⟩
      have HK2 := Lib.hid (HK.out.next hb2)
      clear hb2 a0 a1 a2 a3 a4 a5 HK HC
      obtain ⟨a0, a1, a2, a3, a4, a5⟩ := six HK2.out.1
      go_wp2_with fail
      refine (HLn.out _).mono ?_
      rintro e w3 ⟨v3, rfl, ho, hb3⟩
      have HK3 : Hid (KO w #[.int .i64 6, .int .u8 (c : Int), .int .u8 (m : Int), .slice P ps.length pc, .string s, .slice D dt.length dc] v3 ln w3) := Lib.hid ⟨HK2.out.1.next hb3, HK2.out.2.trans (hb3.mono HK2.out.2.size), own_base (obyt_own ho) (by have := Blk.lt HK2.out.1; omega), by have := Blk.lt HK2.out.1; have := hb3.size; omega⟩
      clear ho hb3 a0 a1 a2 a3 a4 a5 HK2 HLn
      obtain ⟨a0, a1, a2, a3, a4, a5⟩ := six HK3.out.1
      go_wp2_with (at_builtin; refine wpList_append_any _ rfl _ _ 63 rfl (w.heap.size + 1) 5 i0 _ 1 1 Tryz.underlying63 HI.out HZ0.out HZ1.out HZ2.out rfl (by decide) _ _ _ rfl (obyt_own HK3.out.2.2.1) _ D dt.length dc _ rfl (HD.out.next HK3.out.2.1) (oby_one dt) (by have := HLc.out; have := HD5.out; unfold maxLen; simp; omega) (by have := HLc.out; have := HD5.out; simp; omega) HK3.out.2.2.2 ?_; intro v' W' hown' hg' hat'; have HK6 := Lib.hid (KO.append HK3.out hown' hg'); clear hown' hg' hat'; clear HK3)
      refine (HL92.out _).mono ?_
      rintro e w7 ⟨v7, rfl, ho, hb7⟩
      have HK7 := Lib.hid (HK6.out.next hb7)
      obtain ⟨A7, c7, rfl⟩ := ho.form
      have HRd7 := Lib.hid ho.reads
      clear ho hb7 HK6
      go_wp2_with (at_builtin; refine wpList_append_any _ rfl _ _ 63 rfl (w.heap.size + 1) 5 i0 _ 1 1 Tryz.underlying63 HI.out HZ0.out HZ1.out HZ2.out rfl (by decide) _ _ _ rfl (obyt_own HK7.out.2.2.1) w7.heap.size A7 l92.length c7 _ rfl HRd7.out (oby_one l92) (by have := HLc.out; have := HD5.out; have := H92l.out; unfold maxLen; simp; omega) (by have := HLc.out; have := HD5.out; have := H92l.out; simp; omega) HK7.out.2.2.2 ?_; intro v' W' hown' hg' hat'; have HK8 := Lib.hid (KO.append HK7.out hown' hg'); clear hown' hg' hat'; clear HK7)
      exact bodyPost_ret (v := .tuple #[v', .int .i64 0]) (by simp [results, Tryz.results96, go_sem]) rfl ⟨.inr ⟨by simp, _, rfl, HK8.out.2.2.1⟩, HK8.out.2.1⟩
    · skip
      have hbl := HB6.out 88 (.inr (by simp))
      subst hbl
      have HLn : Hid (∀ W, Calls Tryz.prog 127 #[.int .u8 88, .bool eight] W fun e w' => ∃ v, e = .returned v ∧ OByt w' W.heap.size v (leadL 88 eight) ∧ Below W.heap.size W w') := Lib.hid (fun W => HLd.out 88 (by decide) W)
      have HLc := Lib.hid (HLl.out 88)
      generalize leadL 88 eight = ln at *
      clear HLd HLl HB1 HB3 HB4 HB5 HB6 HEs
      go_enter Tryz.func96, Tryz.ntmps96
      go_upto_region 1 with fail
      generalize w.alloc (.cells #[.int .i64 7, .int .u8 (c : Int), .int .u8 (m : Int), .slice P ps.length pc, .string s, .slice D dt.length dc] 66) = w1 at *
      obtain ⟨a0, a1, a2, a3, a4, a5⟩ := six HK.out.1
      go_wp2_with fail
      refine (HC.out _ (HR.out.next HK.out.2) (HD.out.next HK.out.2)).mono ?_
      rintro e w2 ⟨rfl, hb2⟩
      have HK2 := Lib.hid (HK.out.next hb2)
      clear hb2 a0 a1 a2 a3 a4 a5 HK HC
      obtain ⟨a0, a1, a2, a3, a4, a5⟩ := six HK2.out.1
      go_wp2_with fail
      refine (HLn.out _).mono ?_
      rintro e w3 ⟨v3, rfl, ho, hb3⟩
      have HK3 : Hid (KO w #[.int .i64 7, .int .u8 (c : Int), .int .u8 (m : Int), .slice P ps.length pc, .string s, .slice D dt.length dc] v3 ln w3) := Lib.hid ⟨HK2.out.1.next hb3, HK2.out.2.trans (hb3.mono HK2.out.2.size), own_base (obyt_own ho) (by have := Blk.lt HK2.out.1; omega), by have := Blk.lt HK2.out.1; have := hb3.size; omega⟩
      clear ho hb3 a0 a1 a2 a3 a4 a5 HK2 HLn
      obtain ⟨a0, a1, a2, a3, a4, a5⟩ := six HK3.out.1
      go_wp2_with (at_builtin; refine wpList_append_any _ rfl _ _ 63 rfl (w.heap.size + 1) 5 i0 _ 1 1 Tryz.underlying63 HI.out HZ0.out HZ1.out HZ2.out rfl (by decide) _ _ _ rfl (obyt_own HK3.out.2.2.1) _ D dt.length dc _ rfl (HD.out.next HK3.out.2.1) (oby_one dt) (by have := HLc.out; have := HD5.out; unfold maxLen; simp; omega) (by have := HLc.out; have := HD5.out; simp; omega) HK3.out.2.2.2 ?_; intro v' W' hown' hg' hat'; have HK6 := Lib.hid (KO.append HK3.out hown' hg'); clear hown' hg' hat'; clear HK3)
      refine (HL92.out _).mono ?_
      rintro e w7 ⟨v7, rfl, ho, hb7⟩
      have HK7 := Lib.hid (HK6.out.next hb7)
      obtain ⟨A7, c7, rfl⟩ := ho.form
      have HRd7 := Lib.hid ho.reads
      clear ho hb7 HK6
      go_wp2_with (at_builtin; refine wpList_append_any _ rfl _ _ 63 rfl (w.heap.size + 1) 5 i0 _ 1 1 Tryz.underlying63 HI.out HZ0.out HZ1.out HZ2.out rfl (by decide) _ _ _ rfl (obyt_own HK7.out.2.2.1) w7.heap.size A7 l92.length c7 _ rfl HRd7.out (oby_one l92) (by have := HLc.out; have := HD5.out; have := H92l.out; unfold maxLen; simp; omega) (by have := HLc.out; have := HD5.out; have := H92l.out; simp; omega) HK7.out.2.2.2 ?_; intro v' W' hown' hg' hat'; have HK8 := Lib.hid (KO.append HK7.out hown' hg'); clear hown' hg' hat'; clear HK7)
      exact bodyPost_ret (v := .tuple #[v', .int .i64 0]) (by simp [results, Tryz.results96, go_sem]) rfl ⟨.inr ⟨by simp, _, rfl, HK8.out.2.2.1⟩, HK8.out.2.1⟩
    · skip
      have hbl := HB6.out 94 (.inr (.inr (by simp)))
      subst hbl
      have HLn : Hid (∀ W, Calls Tryz.prog 127 #[.int .u8 94, .bool eight] W fun e w' => ∃ v, e = .returned v ∧ OByt w' W.heap.size v (leadL 94 eight) ∧ Below W.heap.size W w') := Lib.hid (fun W => HLd.out 94 (by decide) W)
      have HLc := Lib.hid (HLl.out 94)
      generalize leadL 94 eight = ln at *
      clear HLd HLl HB1 HB3 HB4 HB5 HB6 HEs
      go_enter Tryz.func96, Tryz.ntmps96
      go_upto_region 1 with fail
      generalize w.alloc (.cells #[.int .i64 8, .int .u8 (c : Int), .int .u8 (m : Int), .slice P ps.length pc, .string s, .slice D dt.length dc] 66) = w1 at *
      obtain ⟨a0, a1, a2, a3, a4, a5⟩ := six HK.out.1
      go_wp2_with fail
      refine (HC.out _ (HR.out.next HK.out.2) (HD.out.next HK.out.2)).mono ?_
      rintro e w2 ⟨rfl, hb2⟩
      have HK2 := Lib.hid (HK.out.next hb2)
      clear hb2 a0 a1 a2 a3 a4 a5 HK HC
      obtain ⟨a0, a1, a2, a3, a4, a5⟩ := six HK2.out.1
      go_wp2_with fail
      refine (HLn.out _).mono ?_
      rintro e w3 ⟨v3, rfl, ho, hb3⟩
      have HK3 : Hid (KO w #[.int .i64 8, .int .u8 (c : Int), .int .u8 (m : Int), .slice P ps.length pc, .string s, .slice D dt.length dc] v3 ln w3) := Lib.hid ⟨HK2.out.1.next hb3, HK2.out.2.trans (hb3.mono HK2.out.2.size), own_base (obyt_own ho) (by have := Blk.lt HK2.out.1; omega), by have := Blk.lt HK2.out.1; have := hb3.size; omega⟩
      clear ho hb3 a0 a1 a2 a3 a4 a5 HK2 HLn
      obtain ⟨a0, a1, a2, a3, a4, a5⟩ := six HK3.out.1
      go_wp2_with (at_builtin; refine wpList_append_any _ rfl _ _ 63 rfl (w.heap.size + 1) 5 i0 _ 1 1 Tryz.underlying63 HI.out HZ0.out HZ1.out HZ2.out rfl (by decide) _ _ _ rfl (obyt_own HK3.out.2.2.1) _ D dt.length dc _ rfl (HD.out.next HK3.out.2.1) (oby_one dt) (by have := HLc.out; have := HD5.out; unfold maxLen; simp; omega) (by have := HLc.out; have := HD5.out; simp; omega) HK3.out.2.2.2 ?_; intro v' W' hown' hg' hat'; have HK6 := Lib.hid (KO.append HK3.out hown' hg'); clear hown' hg' hat'; clear HK3)
      refine (HL92.out _).mono ?_
      rintro e w7 ⟨v7, rfl, ho, hb7⟩
      have HK7 := Lib.hid (HK6.out.next hb7)
      obtain ⟨A7, c7, rfl⟩ := ho.form
      have HRd7 := Lib.hid ho.reads
      clear ho hb7 HK6
      go_wp2_with (at_builtin; refine wpList_append_any _ rfl _ _ 63 rfl (w.heap.size + 1) 5 i0 _ 1 1 Tryz.underlying63 HI.out HZ0.out HZ1.out HZ2.out rfl (by decide) _ _ _ rfl (obyt_own HK7.out.2.2.1) w7.heap.size A7 l92.length c7 _ rfl HRd7.out (oby_one l92) (by have := HLc.out; have := HD5.out; have := H92l.out; unfold maxLen; simp; omega) (by have := HLc.out; have := HD5.out; have := H92l.out; simp; omega) HK7.out.2.2.2 ?_; intro v' W' hown' hg' hat'; have HK8 := Lib.hid (KO.append HK7.out hown' hg'); clear hown' hg' hat'; clear HK7)
      exact bodyPost_ret (v := .tuple #[v', .int .i64 0]) (by simp [results, Tryz.results96, go_sem]) rfl ⟨.inr ⟨by simp, _, rfl, HK8.out.2.2.1⟩, HK8.out.2.1⟩
    · skip
      have hbl := HB6.out 95 (by simp)
      subst hbl
      have HLn : Hid (∀ W, Calls Tryz.prog 127 #[.int .u8 95, .bool eight] W fun e w' => ∃ v, e = .returned v ∧ OByt w' W.heap.size v (leadL 95 eight) ∧ Below W.heap.size W w') := Lib.hid (fun W => HLd.out 95 (by decide) W)
      have HLc := Lib.hid (HLl.out 95)
      generalize leadL 95 eight = ln at *
      clear HLd HLl HB1 HB3 HB4 HB5 HB6 HEs
      go_enter Tryz.func96, Tryz.ntmps96
      go_upto_region 1 with fail
      generalize w.alloc (.cells #[.int .i64 9, .int .u8 (c : Int), .int .u8 (m : Int), .slice P ps.length pc, .string s, .slice D dt.length dc] 66) = w1 at *
      obtain ⟨a0, a1, a2, a3, a4, a5⟩ := six HK.out.1
      go_wp2_with fail
      refine (HC.out _ (HR.out.next HK.out.2) (HD.out.next HK.out.2)).mono ?_
      rintro e w2 ⟨rfl, hb2⟩
      have HK2 := Lib.hid (HK.out.next hb2)
      clear hb2 a0 a1 a2 a3 a4 a5 HK HC
      obtain ⟨a0, a1, a2, a3, a4, a5⟩ := six HK2.out.1
      go_wp2_with fail
      refine (HLn.out _).mono ?_
      rintro e w3 ⟨v3, rfl, ho, hb3⟩
      have HK3 : Hid (KO w #[.int .i64 9, .int .u8 (c : Int), .int .u8 (m : Int), .slice P ps.length pc, .string s, .slice D dt.length dc] v3 ln w3) := Lib.hid ⟨HK2.out.1.next hb3, HK2.out.2.trans (hb3.mono HK2.out.2.size), own_base (obyt_own ho) (by have := Blk.lt HK2.out.1; omega), by have := Blk.lt HK2.out.1; have := hb3.size; omega⟩
      clear ho hb3 a0 a1 a2 a3 a4 a5 HK2 HLn
      obtain ⟨a0, a1, a2, a3, a4, a5⟩ := six HK3.out.1
      go_wp2_with (at_builtin; refine wpList_append_any _ rfl _ _ 63 rfl (w.heap.size + 1) 5 i0 _ 1 1 Tryz.underlying63 HI.out HZ0.out HZ1.out HZ2.out rfl (by decide) _ _ _ rfl (obyt_own HK3.out.2.2.1) _ D dt.length dc _ rfl (HD.out.next HK3.out.2.1) (oby_one dt) (by have := HLc.out; have := HD5.out; unfold maxLen; simp; omega) (by have := HLc.out; have := HD5.out; simp; omega) HK3.out.2.2.2 ?_; intro v' W' hown' hg' hat'; have HK6 := Lib.hid (KO.append HK3.out hown' hg'); clear hown' hg' hat'; clear HK3)
      refine (HL92.out _).mono ?_
      rintro e w7 ⟨v7, rfl, ho, hb7⟩
      have HK7 := Lib.hid (HK6.out.next hb7)
      obtain ⟨A7, c7, rfl⟩ := ho.form
      have HRd7 := Lib.hid ho.reads
      clear ho hb7 HK6
      go_wp2_with (at_builtin; refine wpList_append_any _ rfl _ _ 63 rfl (w.heap.size + 1) 5 i0 _ 1 1 Tryz.underlying63 HI.out HZ0.out HZ1.out HZ2.out rfl (by decide) _ _ _ rfl (obyt_own HK7.out.2.2.1) w7.heap.size A7 l92.length c7 _ rfl HRd7.out (oby_one l92) (by have := HLc.out; have := HD5.out; have := H92l.out; unfold maxLen; simp; omega) (by have := HLc.out; have := HD5.out; have := H92l.out; simp; omega) HK7.out.2.2.2 ?_; intro v' W' hown' hg' hat'; have HK8 := Lib.hid (KO.append HK7.out hown' hg'); clear hown' hg' hat'; clear HK7)
      exact bodyPost_ret (v := .tuple #[v', .int .i64 0]) (by simp [results, Tryz.results96, go_sem]) rfl ⟨.inr ⟨by simp, _, rfl, HK8.out.2.2.1⟩, HK8.out.2.1⟩
  · have hne : (ck != 0) = true := by simpa using h0
    have H0 := Lib.hid h0
    clear h0
    go_enter Tryz.func96, Tryz.ntmps96
    go_upto_region 1 with fail
    generalize w.alloc (.cells #[.int .i64 k, .int .u8 (c : Int), .int .u8 (m : Int), .slice P ps.length pc, .string s, .slice D dt.length dc] 66) = w1 at *
    obtain ⟨a0, a1, a2, a3, a4, a5⟩ := six HK.out.1
    go_wp2_with fail
    refine (HC.out _ (HR.out.next HK.out.2) (HD.out.next HK.out.2)).mono ?_
    rintro e w2 ⟨rfl, hb2⟩
    have HK2 := Lib.hid (HK.out.next hb2)
    clear hb2 a0 a1 a2 a3 a4 a5 HK HC
    obtain ⟨a0, a1, a2, a3, a4, a5⟩ := six HK2.out.1
    go_wp2_with fail
    exact bodyPost_ret (v := .tuple #[.slice none 0 0, .int .i64 ck]) (by simp [results, Tryz.results96, go_sem]) rfl ⟨.inl ⟨H0.out, rfl⟩, HK2.out.2⟩
end Go.Proofs.YtfnamfkjbkhgeaaGreatDoor

namespace Go.Proofs.YtfnamfkjbkhgeaaGreatDoor

open Go Go.RowKit

section

variable {P : Program} (w : World)

theorem run_append_zero (t ty e : TypeId) (i : TypeInfo) (ht : P.underlying t = some (.slice e)) (hi : P.info? e = some i) (g : Nat) (A : Option Addr) (c : Nat) :
    (Builtin.append_ #[t, t] ty #[.slice (some ⟨g, 0, none⟩) 0 0, .slice A 0 c]).run P w = .ok (.slice (some ⟨g, 0, none⟩) 0 0) w := by
  cases A with
  | none => simp [Builtin.append_, run_underlying ht, sizeOf, typeInfo, hi, Builtin.lenOf, Builtin.firstCells, storeCells]
  | some a =>
    have h0 : (loadCells a 0).run P w = .ok #[] w := by
      have := run_loadCells_list (P := P) w a [] (fun j v hj => by simp at hj)
      simpa using this
    simp [Builtin.append_, run_underlying ht, sizeOf, typeInfo, hi, Builtin.lenOf, Builtin.firstCells, h0, storeCells]
/-- What is copied into a new slice: 'append([]T{}, x...)', its empty slice being there. -/
theorem run_append_fresh (base : Nat) (t ty e : TypeId) (i : TypeInfo) (z : Value) (bytes : Nat) (ht : P.underlying t = some (.slice e)) (hi : P.info? e = some i) (hz : i.zero = some z)
    (hsize : i.size = 1) (hby : i.bytes = bytes) (hzs : z.cells.size = 1) (g : Nat) (hg : Blk w g e #[]) (hb : base ≤ g)
    (B : Nat) (A : Option Addr) (m c : Nat) (news : List Value) (hr : Reads w B 1 A m news) (h1 : ∀ u ∈ news, u.oneCell' = true) (h63 : m ≤ maxLen) (hbytes : m * bytes ≤ 140737488355328) :
    ∃ u w', (Builtin.append_ #[t, t] ty #[.slice (some ⟨g, 0, none⟩) 0 0, .slice A m c]).run P w = .ok u w' ∧ w'.ownsRow base e 1 u m news ∧ Below w.heap.size w w' := by
  have hown : w.ownsRow base e 1 (.slice (some ⟨g, 0, none⟩) 0 0) 0 [] := ⟨rfl, .inr ⟨g, 0, #[], rfl, hb, hg, Nat.le_refl _, by omega, rfl, rfl⟩⟩
  rcases Nat.eq_zero_or_pos m with h0 | h0
  · subst h0
    obtain rfl : news = [] := List.eq_nil_of_length_eq_zero (by simpa using hr.1)
    exact ⟨_, w, run_append_zero w t ty e i ht hi g A c, hown, Below.refl _ _⟩
  · obtain ⟨v', w', hrun, h2, h3, _⟩ := run_append_any (P := P) w base t ty e i z 1 bytes ht hi hz hsize hby hzs (by decide) _ 0 [] hown B A m c news hr h1 (by omega) (by simpa using hbytes) (by have := hg.lt; omega)
    obtain ⟨ad, rfl, _, hc⟩ := hr.2 h0
    have hm : m ≤ maxLen := h63
    have hg2 := run_append_grow (P := P) w t ty e i z ht hi hz ⟨g, 0, none⟩ 0 0 [] (by simp) (fun j v hj => by simp at hj) ad m c news (by rw [hr.1, hsize]) hc (by omega) (by unfold maxLen at hm; omega) (by rw [hby, Nat.zero_add, nextslicecap_zero h0]; omega)
    rw [hrun] at hg2
    injection hg2 with e1 e2
    refine ⟨v', w', hrun, by simpa using h2, ?_⟩
    rw [e2]
    exact ((Below.refl _ _).drew).alloc (by simp) _
end

theorem exec_append {P : Program} {o : Oper} {a : Act} (s x : Operand) (t : TypeId) (ho : o.op = .call { callee := .builtin .append, args := #[s, x], argTypes := #[t, t] }) {v y u : Value} {w w' : World} (hs : a.eval s = v) (hx : a.eval x = y)
    (hr : (Builtin.append_ #[t, t] o.type #[v, y]).run P w = .ok u w') : (execOp a.eval o).run P w = .ok (.value u) w' := by
  unfold execOp
  simp only [ho, resolve, invoke, builtin, Sem.run_bind, Sem.run_pure, Result.andThen_ok, List.map_toArray, List.map_cons, List.map_nil, hs, hx, hr]
/-- An empty slice that was just made. -/
def EmpP (u : Value) : Prop := ∃ g, u = .slice (some ⟨g, 0, none⟩) 0 0
def EmpF (T : TypeId) (B : Nat) (u : Value) (W : World) : Prop := ∃ g, u = .slice (some ⟨g, 0, none⟩) 0 0 ∧ B ≤ g ∧ Blk W g T #[]
def SlcP (n : Nat) (u : Value) : Prop := ∃ A c, u = .slice A n c ∧ n ≤ c
def OwnF (T : TypeId) (B n : Nat) (xs : List Value) (u : Value) (W : World) : Prop := W.ownsRow B T 1 u n xs
theorem emp_stab (ks : Kinds) (wr : World) (T : TypeId) (h : boxes ks = []) : ∀ v w w', Kept ks wr w w' → EmpF T wr.heap.size v w → EmpF T wr.heap.size v w' := by
  rintro v w w' hk ⟨g, e, hg, hb⟩
  exact ⟨g, e, hg, (hk.block g hb.lt hg (fun _ _ _ _ => by rw [h]; simp)).trans hb⟩
theorem own_stab (ks : Kinds) (wr : World) (T : TypeId) (n : Nat) (xs : List Value) (h : boxes ks = []) : ∀ v w w', Kept ks wr w w' → OwnF T wr.heap.size n xs v w → OwnF T wr.heap.size n xs v w' := by
  rintro v w w' hk ⟨hl, hr⟩
  rcases hr with ⟨rfl, hn⟩ | ⟨g, cap, cur, rfl, hb, hg, r⟩
  · exact ⟨hl, .inl ⟨rfl, hn⟩⟩
  · have hlt : g < w.heap.size := Blk.lt (show Blk w g T cur from hg)
    exact ⟨hl, .inr ⟨g, cap, cur, rfl, hb, (hk.block g hlt hb (fun _ _ _ _ => by rw [h]; simp)).trans hg, r⟩⟩
theorem own_form {w : World} {B n : Nat} {T : TypeId} {v : Value} {xs : List Value} (h : w.ownsRow B T 1 v n xs) : SlcP n v := by
  rcases h.2 with ⟨rfl, hn⟩ | ⟨g, cap, cur, rfl, _, _, hle, _⟩
  · exact ⟨none, 0, by rw [hn], by omega⟩
  · exact ⟨_, _, rfl, hle⟩
theorem int_one (ns : List Int) : ∀ u ∈ ns.map (Value.int .i64), u.oneCell' = true := by
  intro u hu
  obtain ⟨n, _, rfl⟩ := List.mem_map.1 hu
  rfl
theorem repl6 {w : World} {g : Nat} {T : TypeId} {u0 u1 u2 u3 u4 u5 : Value} (h : Blk w g T #[u0, u1, u2, u3, u4, u5]) (v0 v1 v2 v3 v4 v5 : Value) : Repl w (put6 w g v0 v1 v2 v3 v4 v5) g T #[v0, v1, v2, v3, v4, v5] := by
  have h1 := Repl.set h 0 v0
  have h2 := h1.trans (Repl.set h1.here 1 v1)
  have h3 := h2.trans (Repl.set h2.here 2 v2)
  have h4 := h3.trans (Repl.set h3.here 3 v3)
  have h5 := h4.trans (Repl.set h4.here 4 v4)
  have h6 := h5.trans (Repl.set h5.here 5 v5)
  simp only [List.setIfInBounds_toArray, List.set_cons_zero, List.set_cons_succ] at h6
  exact h6
theorem Repl.as {w w' : World} {b : Nat} {T : TypeId} {cs cs' : Array Value} (h : Repl w w' b T cs) (e : cs = cs') : Repl w w' b T cs' := e ▸ h
/-- What is known when a token of the program's own is made. -/
def OwnR (w w' : World) (e : Ending) (k : Int) (c m : Nat) (ps : List Int) (s : ByteArray) (dt : List Nat) : Prop :=
  ∃ P pc D dc, e = .returned (.agg (tkC k (c : Int) (m : Int) P ps pc s D dt dc)) ∧ ps.length ≤ pc ∧ dt.length ≤ dc ∧ OInts w' w.heap.size (.slice P ps.length pc) ps ∧ OByt w' w.heap.size (.slice D dt.length dc) dt
def zTok : Array Value := #[.int .i64 0, .int .u8 0, .int .u8 0, .slice none 0 0, .string ⟨#[]⟩, .slice none 0 0]

end Go.Proofs.YtfnamfkjbkhgeaaGreatDoor

namespace Go.Proofs.YtfnamfkjbkhgeaaGreatDoor

open Go Go.RowKit

def dataB (n : Nat) : Bool := amongB n 8 13 || (amongB n 32 126 || decide (160 ≤ n))
theorem noData_eq (n : Nat) : noDataB n = !dataB n := by
  unfold noDataB dataB amongB
  rw [Bool.eq_iff_iff]
  simp


/-- The kind that a byte behind an escape begins; 0: none. -/
def begunP (c : Nat) : Nat := if c = 91 then 4 else if c = 80 then 5 else if c = 93 then 6 else if c = 88 then 7 else if c = 94 then 8 else if c = 95 then 9 else 0
theorem begun_le (c : Nat) : begunP c ≤ 9 := by unfold begunP; repeat' split <;> try omega
theorem begun_leads (c : Nat) : leadsB c = ((begunP c != 0) || (c == 92)) := by
  unfold leadsB begunP
  rw [Bool.eq_iff_iff]
  simp
  repeat' split <;> try omega
theorem begun_ge (c : Nat) : begunP c = 0 ∨ 4 ≤ begunP c := by unfold begunP; repeat' split <;> try omega

end Go.Proofs.YtfnamfkjbkhgeaaGreatDoor

namespace Go.Proofs.YtfnamfkjbkhgeaaGreatDoor

open Go Go.RowKit

def codeQ (k : Int) (c : Nat) (s : ByteArray) : Bool :=
  if k = 1 then amongB c 32 126 || decide (160 ≤ c)
  else if k = 2 then amongB c 1 31 && ((c != 24) && (c != 27))
  else if k = 3 then (if decide (s.size = 0) && ((begunP c != 0) || (c == 92)) then false else amongB c 48 126)
  else if k = 4 ∨ k = 5 then amongB c 64 126
  else c == 0
theorem code_same (k : Int) (c : Nat) (s : ByteArray) : codeQ k c s = if k = 1 ∨ k = 2 ∨ k = 3 ∨ k = 4 ∨ k = 5 then codedB k c s else c == 0 := by
  unfold codeQ codedB
  by_cases k1 : k = 1
  · subst k1; rfl
  · by_cases k2 : k = 2
    · subst k2; rfl
    · by_cases k3 : k = 3
      · subst k3
        show (if (decide (s.size = 0) && ((begunP c != 0) || (c == 92))) = true then false else amongB c 48 126) = (amongB c 48 126 && (!decide (s.size = 0) || !leadsB c))
        rw [begun_leads]
        cases decide (s.size = 0) <;> cases (begunP c != 0) <;> cases (c == 92) <;> cases amongB c 48 126 <;> rfl
      · by_cases k4 : k = 4 ∨ k = 5
        · rw [if_neg k1, if_neg k2, if_neg k3, if_pos k4, if_pos (by omega), if_neg k1, if_neg k2, if_neg k3, if_pos k4]
        · rw [if_neg k1, if_neg k2, if_neg k3, if_neg k4, if_neg (by omega)]
theorem le_lit (a : Nat) (n : Nat) : decide ((a : Int) ≤ (n : Int)) = decide (a ≤ n) := by simp

end Go.Proofs.YtfnamfkjbkhgeaaGreatDoor

namespace Go.Proofs.YtfnamfkjbkhgeaaGreatDoor

open Go Go.RowKit

def rngB (n : Int) : Bool := !decide (n < 0) && !decide (65535 < n)
def pick8 (bK bS qr qi qd qc bM bL : Bool) : Int := if bK then 1 else if bS then 2 else if !qr then 2 else if !qi then 3 else if !qd then 3 else if !qc then 3 else if bM then 3 else if bL then 3 else 0
def lateB (k : Int) (m : Nat) (ps : List Int) (s : ByteArray) (dt : List Nat) : Bool :=
  (!((k == 4) || (k == 5)) && ((m != 0) || decide (0 < ps.length))) || ((!((k == 4) || (k == 5)) && ((k != 3) && !(decide (s.size = 0)))) || (decide (k < 5) && decide (0 < dt.length)))
def refChkP (k : Int) (c m : Nat) (ps : List Int) (s : ByteArray) (dt : List Nat) : Int :=
  pick8 (decide (k < 1) || decide (9 < k)) (decide (3 < s.size) || (decide (30 < ps.length) || decide (4096 < dt.length))) (ps.all rngB) (s.data.toList.all interB) (dt.all dataB) (codeQ k c s) ((m != 0) && (decide (m < 60) || decide (63 < m))) (lateB k m ps s dt)
theorem allR_step {ps : List Int} {j : Nat} (hj : j < ps.length) (h : (ps.take j).all rngB = true) : (rngB ps[j] = true → (ps.take (j + 1)).all rngB = true) ∧ (rngB ps[j] = false → ps.all rngB = false) := by
  constructor
  · intro hi
    rw [take_snoc _ j hj, List.all_append, h]
    simp [hi]
  · intro hi
    rcases he : ps.all rngB with _ | _
    · rfl
    · have := List.all_eq_true.1 he _ (List.getElem_mem hj)
      rw [hi] at this
      cases this
theorem allD_step {ps : List Nat} {j : Nat} (hj : j < ps.length) (h : (ps.take j).all dataB = true) : (dataB ps[j] = true → (ps.take (j + 1)).all dataB = true) ∧ (dataB ps[j] = false → ps.all dataB = false) := by
  constructor
  · intro hi
    rw [take_snoc _ j hj, List.all_append, h]
    simp [hi]
  · intro hi
    rcases he : ps.all dataB with _ | _
    · rfl
    · have := List.all_eq_true.1 he _ (List.getElem_mem hj)
      rw [hi] at this
      cases this
theorem lt_lit (a n : Nat) : decide ((a : Int) < (n : Int)) = decide (a < n) := by simp

end Go.Proofs.YtfnamfkjbkhgeaaGreatDoor

namespace Go.Proofs.YtfnamfkjbkhgeaaGreatDoor

open Go Go.RowKit

theorem bstr_nil (dt : List Nat) : decide (bstr dt = bstr []) = decide (dt.length = 0) := by
  rw [Bool.eq_iff_iff, decide_eq_true_iff, decide_eq_true_iff]
  constructor
  · intro h
    have := congrArg ByteArray.size h
    rw [bstr_size, bstr_size] at this
    exact this
  · intro h
    rw [List.length_eq_zero_iff.1 h]
theorem str_nil (s : ByteArray) : (s.toList == (ByteArray.mk #[]).toList) = decide (s.size = 0) := by
  rw [ByteArray.toList_eq, ByteArray.toList_eq, ← dlen]
  cases s.data.toList <;> simp
theorem ints_nil (ps : List Int) : (ps == []) = decide (ps.length = 0) := by
  cases ps <;> simp
theorem pos_dec (n : Nat) : decide (0 < n) = !decide (n = 0) := by
  by_cases h : n = 0
  · subst h; rfl
  · rw [decide_eq_false h, decide_eq_true (by omega)]; rfl
theorem mcast (m : Nat) : ((m : Int) == 0) = !(m != 0) := by
  rw [Bool.eq_iff_iff]
  simp
theorem same_zero (k c m : Int) (ps : List Int) (s : ByteArray) (dt : List Nat) : sameQ k c m ps s dt k 0 0 [] (ByteArray.mk #[]) [] = ((c == 0) && ((m == 0) && (decide (s.size = 0) && (decide (ps.length = 0) && decide (dt.length = 0))))) := by
  unfold sameQ
  rw [bstr_nil, str_nil, ints_nil]
  simp
theorem pure_late (k : Int) (h1 : 1 ≤ k) (h9 : k ≤ 9) (c m : Nat) (ps : List Int) (s : ByteArray) (dt : List Nat) : (pureB k c m ps s dt && codedB k c s) = (codeQ k c s && !lateB k m ps s dt) := by
  unfold pureB lateB
  rw [code_same, pos_dec, pos_dec]
  simp only [same_zero, mcast]
  have hc : (c == 0) = !(c != 0) := by cases h : (c == 0) <;> simp [bne, h]
  rw [hc]
  have hs : k = 1 ∨ k = 2 ∨ k = 3 ∨ k = 4 ∨ k = 5 ∨ k = 6 ∨ k = 7 ∨ k = 8 ∨ k = 9 := by omega
  rcases hs with rfl | rfl | rfl | rfl | rfl | h
  · generalize codedB 1 c s = q
    cases q <;> cases (m != 0) <;> cases decide (s.size = 0) <;> cases decide (ps.length = 0) <;> cases decide (dt.length = 0) <;> rfl
  · generalize codedB 2 c s = q
    cases q <;> cases (m != 0) <;> cases decide (s.size = 0) <;> cases decide (ps.length = 0) <;> cases decide (dt.length = 0) <;> rfl
  · generalize codedB 3 c s = q
    cases q <;> cases (m != 0) <;> cases decide (s.size = 0) <;> cases decide (ps.length = 0) <;> cases decide (dt.length = 0) <;> rfl
  · generalize codedB 4 c s = q
    cases q <;> cases (m != 0) <;> cases decide (s.size = 0) <;> cases decide (ps.length = 0) <;> cases decide (dt.length = 0) <;> rfl
  · generalize codedB 5 c s = q
    cases q <;> cases (m != 0) <;> cases decide (s.size = 0) <;> cases decide (ps.length = 0) <;> cases decide (dt.length = 0) <;> rfl
  · have ec : codedB k c s = true := by
      unfold codedB
      rw [if_neg (by omega), if_neg (by omega), if_neg (by omega), if_neg (by omega)]
    rw [ec]
    rcases h with rfl | rfl | rfl | rfl
    all_goals
      cases (c != 0) <;> cases (m != 0) <;> cases decide (s.size = 0) <;> cases decide (ps.length = 0) <;> cases decide (dt.length = 0) <;> rfl
theorem out_rng (n : Int) : outB n = !rngB n := by
  unfold outB rngB clipP
  rw [Bool.eq_iff_iff]
  simp
  omega
theorem any_not {α : Type} (f g : α → Bool) (h : ∀ x, f x = !g x) : ∀ l : List α, l.any f = !l.all g
  | [] => rfl
  | x :: l => by rw [List.any_cons, List.all_cons, h, any_not f g h l, Bool.not_and]
theorem chk_same (k : Int) (c m : Nat) (ps : List Int) (s : ByteArray) (dt : List Nat) : refChkP k c m ps s dt = checkP k c m ps s dt := by
  unfold refChkP checkP
  by_cases hk : k < 1 ∨ 9 < k
  · rw [if_pos hk]
    have : (decide (k < 1) || decide (9 < k)) = true := by simpa using hk
    rw [this]
    rfl
  · rw [if_neg hk]
    have e : (decide (k < 1) || decide (9 < k)) = false := by simp; omega
    rw [e]
    have hpl := pure_late k (by omega) (by omega) c m ps s dt
    have hsm : smallB ps s dt = (!(decide (3 < s.size) || (decide (30 < ps.length) || decide (4096 < dt.length))) && ps.all rngB) := by
      unfold smallB
      rw [any_not outB rngB out_rng ps]
      have q1 : decide (s.size ≤ 3) = !decide (3 < s.size) := by rw [Bool.eq_iff_iff]; simp
      have q2 : decide (ps.length ≤ 30) = !decide (30 < ps.length) := by rw [Bool.eq_iff_iff]; simp
      have q3 : decide (dt.length ≤ 4096) = !decide (4096 < dt.length) := by rw [Bool.eq_iff_iff]; simp
      rw [q1, q2, q3]
      cases decide (3 < s.size) <;> cases decide (30 < ps.length) <;> cases decide (4096 < dt.length) <;> cases ps.all rngB <;> rfl
    have hwr : writtenB m s dt = (!((m != 0) && (decide (m < 60) || decide (63 < m))) && (s.data.toList.all interB && dt.all dataB)) := by
      unfold writtenB amongB
      rw [any_not noDataB dataB noData_eq dt]
      have q1 : decide (60 ≤ m) = !decide (m < 60) := by rw [Bool.eq_iff_iff]; simp
      have q2 : decide (m ≤ 63) = !decide (63 < m) := by rw [Bool.eq_iff_iff]; simp
      have q3 : (m == 0) = !(m != 0) := by cases h : (m == 0) <;> simp [bne, h]
      rw [q1, q2, q3]
      cases (m != 0) <;> cases decide (m < 60) <;> cases decide (63 < m) <;> cases s.data.toList.all interB <;> cases dt.all dataB <;> rfl
    have h3 : (pureB k c m ps s dt && (codedB k c s && writtenB m s dt)) = ((codeQ k c s && !lateB k m ps s dt) && writtenB m s dt) := by rw [← hpl, Bool.and_assoc]
    rw [h3, hsm, hwr]
    cases (decide (3 < s.size) || (decide (30 < ps.length) || decide (4096 < dt.length))) <;> cases ps.all rngB <;> cases s.data.toList.all interB <;> cases dt.all dataB <;> cases codeQ k c s <;> cases ((m != 0) && (decide (m < 60) || decide (63 < m))) <;> cases lateB k m ps s dt <;> rfl
end Go.Proofs.YtfnamfkjbkhgeaaGreatDoor

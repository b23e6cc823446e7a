/-
  Tokens: their bytes.
-/
import Derived.Test.YtpiliicphoacfaaDoorTokJ
namespace Go.Proofs.YtpiliicphoacfaaDoor

open Go Go.RowKit

def begN (k : Int) : Nat := if k = 4 then 91 else if k = 5 then 80 else if k = 6 then 93 else if k = 7 then 88 else if k = 8 then 94 else 95
def bytesL (k : Int) (c m : Nat) (ps : List Int) (s : ByteArray) (dt : List Nat) (eight : Bool) : List Nat :=
  if k = 1 ∨ k = 2 then [c]
  else if k = 3 then escL c m ps s eight
  else leadL (begN k) eight ++ (if k = 4 ∨ k = 5 then signsL c m ps s else []) ++ (if k = 4 then [] else dt ++ leadL 92 eight)
theorem KO.append {w W W' : World} {x : Array Value} {v v' : Value} {l r : List Nat} (h : KO w x v l W) (ho : W'.ownsRow (w.heap.size + 1) 5 1 v' (l.length + r.length) (l.map (fun (n : Nat) => Value.int .u8 (n : Int)) ++ r.map (fun (n : Nat) => Value.int .u8 (n : Int)))) (hg : W.grownBy W' v.ownBlock) : KO w x v' (l ++ r) W' :=
  h.more (below_str h.2.2.1 h.2.2.2 hg) (by unfold OByt; rw [List.length_append, List.map_append]; exact ho)
theorem check_zero {k : Int} {c m : Nat} {ps : List Int} {s : ByteArray} {dt : List Nat} (h : checkP k c m ps s dt = 0) : 1 ≤ k ∧ k ≤ 9 ∧ s.size ≤ 3 ∧ ps.length ≤ 30 ∧ dt.length ≤ 4096 ∧ ps.any outB = false ∧ pureB k c m ps s dt = true ∧ codedB k c s = true ∧ writtenB m s dt = true := by
  unfold checkP at h
  split at h
  · cases h
  · rename_i h1
    split at h
    · cases h
    · rename_i h2
      split at h
      · cases h
      · rename_i h3
        simp only [Bool.not_eq_false, smallB, Bool.and_eq_true, decide_eq_true_eq, Bool.not_eq_true'] at h2 h3
        exact ⟨by omega, by omega, h2.1, h2.2.1, h2.2.2.1, h2.2.2.2, h3.1, h3.2.1, h3.2.2⟩
theorem lead_len (c : Nat) (e : Bool) : (leadL c e).length ≤ 2 := by unfold leadL; split <;> simp
theorem signs_len (c m : Nat) (ps : List Int) (s : ByteArray) (h : s.size ≤ 3) : (signsL c m ps s).length ≤ 190 := by
  have := fmt_len ps
  unfold signsL
  simp only [List.length_append, natL_len, dlen, List.length_cons, List.length_nil]
  split
  · simp; omega
  · simp; omega
/-- What is answered: an error and nothing, or the bytes. -/
def BytesR (w w' : World) (e : Ending) (k : Int) (c m : Nat) (ps : List Int) (s : ByteArray) (dt : List Nat) (eight : Bool) : Prop :=
  (checkP k c m ps s dt ≠ 0 ∧ e = .returned (.tuple #[.slice none 0 0, .int .i64 (checkP k c m ps s dt)])) ∨ (checkP k c m ps s dt = 0 ∧ ∃ v, e = .returned (.tuple #[v, .int .i64 0]) ∧ OByt w' (w.heap.size + 1) v (bytesL k c m ps s dt eight))
set_option maxRecDepth 100000 in
set_option maxHeartbeats 16000000 in
theorem bytes_any (k : Int) (c m : Nat) (P : Option Addr) (ps : List Int) (pc : Nat) (s : ByteArray) (D : Option Addr) (dt : List Nat) (dc : Nat) (hc : c < 256) (hsz : s.size ≤ maxLen) (hp : ps.length ≤ maxLen) (hpc : ps.length ≤ pc) (hd : dt.length ≤ maxLen) (eight : Bool) (w : World) (ht : Ten w) (hr : RInts w P ps) (hb : RByt w D dt) :
    Calls Tryd.prog 8 #[.agg (tkC k (c : Int) (m : Int) P ps pc s D dt dc), .bool eight] w fun e w' => BytesR w w' e k c m ps s dt eight ∧ Below w.heap.size w w' := by
  have HC := Lib.hid (fun W h1 h2 => check_any k c m P ps pc s D dt dc hc hsz hp hd W h1 h2)
  have HZero := Lib.hid (fun h => check_zero (k := k) (c := c) (m := m) (ps := ps) (s := s) (dt := dt) h)
  have HEs := Lib.hid (fun h W t g => escaped_any k c m P ps pc s D dt dc hc hp hpc h eight W t g)
  have HSg := Lib.hid (fun h W t g => signs_any k c m P ps pc s D dt dc hp hpc h W t g)
  have HLd := Lib.hid (fun n h W => lead_any n h eight W)
  have HSl := Lib.hid (fun h => signs_len c m ps s h)
  have HLl := Lib.hid (fun n => lead_len n eight)
  have HT := Lib.hid ht; have HR := Lib.hid hr; have HD := Lib.hid hb
  have HK := Lib.hid (K1.start w 29 (tkC k (c : Int) (m : Int) P ps pc s D dt dc))
  obtain ⟨i0, hi0, hz0, hz1, hz2⟩ := info_u8
  have HI := Lib.hid hi0; have HZ0 := Lib.hid hz0; have HZ1 := Lib.hid hz1; have HZ2 := Lib.hid hz2
  clear ht hr hb hsz hp hpc hd hi0 hz0 hz1 hz2
  unfold BytesR
  generalize checkP k c m ps s dt = ck at *
  have HB1 : Hid (k = 1 ∨ k = 2 → bytesL k c m ps s dt eight = [c]) := Lib.hid (fun h => if_pos h)
  have HB3 : Hid (k = 3 → bytesL k c m ps s dt eight = escL c m ps s eight) := Lib.hid (fun h => by subst h; rfl)
  have HB4 : Hid (k = 4 → bytesL k c m ps s dt eight = leadL 91 eight ++ signsL c m ps s) := Lib.hid (fun h => by subst h; show leadL 91 eight ++ signsL c m ps s ++ [] = _; rw [List.append_nil])
  have HB5 : Hid (k = 5 → bytesL k c m ps s dt eight = leadL 80 eight ++ signsL c m ps s ++ dt ++ leadL 92 eight) := Lib.hid (fun h => by subst h; show leadL 80 eight ++ signsL c m ps s ++ (dt ++ leadL 92 eight) = _; rw [List.append_assoc, List.append_assoc, List.append_assoc])
  have HB6 : Hid (∀ n, (k = 6 ∧ n = 93) ∨ (k = 7 ∧ n = 88) ∨ (k = 8 ∧ n = 94) ∨ (k = 9 ∧ n = 95) → bytesL k c m ps s dt eight = leadL n eight ++ dt ++ leadL 92 eight) := Lib.hid (fun n h => by
    rcases h with ⟨rfl, rfl⟩ | ⟨rfl, rfl⟩ | ⟨rfl, rfl⟩ | ⟨rfl, rfl⟩ <;> (show leadL _ eight ++ [] ++ (dt ++ leadL 92 eight) = _; rw [List.append_nil, List.append_assoc]; rfl))
  generalize bytesL k c m ps s dt eight = bl at *
  generalize escL c m ps s eight = el at *
  generalize signsL c m ps s = sl at *
  have HL92 : Hid (∀ W, Calls Tryd.prog 22 #[.int .u8 92, .bool eight] W fun e w' => ∃ v, e = .returned v ∧ OByt w' W.heap.size v (leadL 92 eight) ∧ Below W.heap.size W w') := Lib.hid (fun W => HLd.out 92 (by decide) W)
  have H92l := Lib.hid (HLl.out 92)
  generalize leadL 92 eight = l92 at *
  unfold tkC at *
  by_cases h0 : ck = 0
  · subst h0
    obtain ⟨z1, z2, z3, z4, z5, _, _, _, _⟩ := HZero.out rfl
    have HS3 := Lib.hid z3; have HD5 := Lib.hid z5
    have hks : k = 1 ∨ k = 2 ∨ k = 3 ∨ k = 4 ∨ k = 5 ∨ k = 6 ∨ k = 7 ∨ k = 8 ∨ k = 9 := by omega
    clear HZero z1 z2 z3 z4 z5
    rcases hks with rfl | rfl | rfl | rfl | rfl | rfl | rfl | rfl | rfl
    · skip
      have hbl := HB1.out (by simp)
      subst hbl
      go_enter Tryd.func8, Tryd.ntmps8
      go_upto_region 1 with fail
      generalize w.alloc (.cells #[.int .i64 1, .int .u8 (c : Int), .int .u8 (m : Int), .slice P ps.length pc, .string s, .slice D dt.length dc] 29) = w1 at *
      obtain ⟨a0, a1, a2, a3, a4, a5⟩ := six HK.out.1
      go_wp2_with fail
      refine (HC.out _ (HR.out.next HK.out.2) (HD.out.next HK.out.2)).mono ?_
      rintro e w2 ⟨rfl, hb2⟩
      have HK2 := Lib.hid (HK.out.next hb2)
      clear hb2 a0 a1 a2 a3 a4 a5 HK HC
      obtain ⟨a0, a1, a2, a3, a4, a5⟩ := six HK2.out.1
      have HO : Hid (OByt (w2.alloc (.cells #[.int .u8 (c : Int)] 5)) (w.heap.size + 1) (.slice (some ⟨w2.heap.size, 0, none⟩) 1 1) [c]) := Lib.hid (own_base (World.ownsRow_lit (e := 5) (size := 1) w2 #[.int .u8 (c : Int)] 1 (Nat.le_refl _) (by unfold maxLen; omega) rfl) (by have := Blk.lt HK2.out.1; omega))
      go_wp2_with fail
      exact bodyPost_ret (v := .tuple #[.slice (some ⟨w2.heap.size, 0, none⟩) 1 1, .int .i64 0]) (by simp [results, Tryd.results8, go_sem]) rfl ⟨.inr ⟨by simp, _, rfl, HO.out⟩, HK2.out.2.alloc HK2.out.2.size _⟩
    · skip
      have hbl := HB1.out (by simp)
      subst hbl
      go_enter Tryd.func8, Tryd.ntmps8
      go_upto_region 1 with fail
      generalize w.alloc (.cells #[.int .i64 2, .int .u8 (c : Int), .int .u8 (m : Int), .slice P ps.length pc, .string s, .slice D dt.length dc] 29) = w1 at *
      obtain ⟨a0, a1, a2, a3, a4, a5⟩ := six HK.out.1
      go_wp2_with fail
      refine (HC.out _ (HR.out.next HK.out.2) (HD.out.next HK.out.2)).mono ?_
      rintro e w2 ⟨rfl, hb2⟩
      have HK2 := Lib.hid (HK.out.next hb2)
      clear hb2 a0 a1 a2 a3 a4 a5 HK HC
      obtain ⟨a0, a1, a2, a3, a4, a5⟩ := six HK2.out.1
      have HO : Hid (OByt (w2.alloc (.cells #[.int .u8 (c : Int)] 5)) (w.heap.size + 1) (.slice (some ⟨w2.heap.size, 0, none⟩) 1 1) [c]) := Lib.hid (own_base (World.ownsRow_lit (e := 5) (size := 1) w2 #[.int .u8 (c : Int)] 1 (Nat.le_refl _) (by unfold maxLen; omega) rfl) (by have := Blk.lt HK2.out.1; omega))
      go_wp2_with fail
      exact bodyPost_ret (v := .tuple #[.slice (some ⟨w2.heap.size, 0, none⟩) 1 1, .int .i64 0]) (by simp [results, Tryd.results8, go_sem]) rfl ⟨.inr ⟨by simp, _, rfl, HO.out⟩, HK2.out.2.alloc HK2.out.2.size _⟩
    · skip
      have hbl := HB3.out (by simp)
      subst hbl
      go_enter Tryd.func8, Tryd.ntmps8
      go_upto_region 1 with fail
      generalize w.alloc (.cells #[.int .i64 3, .int .u8 (c : Int), .int .u8 (m : Int), .slice P ps.length pc, .string s, .slice D dt.length dc] 29) = w1 at *
      obtain ⟨a0, a1, a2, a3, a4, a5⟩ := six HK.out.1
      go_wp2_with fail
      refine (HC.out _ (HR.out.next HK.out.2) (HD.out.next HK.out.2)).mono ?_
      rintro e w2 ⟨rfl, hb2⟩
      have HK2 := Lib.hid (HK.out.next hb2)
      clear hb2 a0 a1 a2 a3 a4 a5 HK HC
      obtain ⟨a0, a1, a2, a3, a4, a5⟩ := six HK2.out.1
      go_wp2_with fail
      refine (HEs.out (by have := HS3.out; omega) _ (HT.out.next HK2.out.2) (HR.out.next HK2.out.2)).mono ?_
      rintro e w3 ⟨v, rfl, ho, hb3⟩
      have HO := Lib.hid (own_base (obyt_own ho) (b' := w.heap.size + 1) (by have := Blk.lt HK2.out.1; omega))
      have HB := Lib.hid (HK2.out.2.trans (hb3.mono HK2.out.2.size))
      clear ho hb3 a0 a1 a2 a3 a4 a5
      go_wp2_with fail
      exact bodyPost_ret (v := .tuple #[v, .int .i64 0]) (by simp [results, Tryd.results8, go_sem]) rfl ⟨.inr ⟨by simp, _, rfl, HO.out⟩, HB.out⟩
    · skip
      have hbl := HB4.out (by simp)
      subst hbl
      have HLn : Hid (∀ W, Calls Tryd.prog 22 #[.int .u8 91, .bool eight] W fun e w' => ∃ v, e = .returned v ∧ OByt w' W.heap.size v (leadL 91 eight) ∧ Below W.heap.size W w') := Lib.hid (fun W => HLd.out 91 (by decide) W)
      have HLc := Lib.hid (HLl.out 91)
      generalize leadL 91 eight = ln at *
      clear HLd HLl HB1 HB3 HB4 HB5 HB6 HEs
      go_enter Tryd.func8, Tryd.ntmps8
      go_upto_region 1 with fail
      generalize w.alloc (.cells #[.int .i64 4, .int .u8 (c : Int), .int .u8 (m : Int), .slice P ps.length pc, .string s, .slice D dt.length dc] 29) = w1 at *
      obtain ⟨a0, a1, a2, a3, a4, a5⟩ := six HK.out.1
      go_wp2_with fail
      refine (HC.out _ (HR.out.next HK.out.2) (HD.out.next HK.out.2)).mono ?_
      rintro e w2 ⟨rfl, hb2⟩
      have HK2 := Lib.hid (HK.out.next hb2)
      clear hb2 a0 a1 a2 a3 a4 a5 HK HC
      obtain ⟨a0, a1, a2, a3, a4, a5⟩ := six HK2.out.1
      go_wp2_with fail
      refine (HLn.out _).mono ?_
      rintro e w3 ⟨v3, rfl, ho, hb3⟩
      have HK3 : Hid (KO w #[.int .i64 4, .int .u8 (c : Int), .int .u8 (m : Int), .slice P ps.length pc, .string s, .slice D dt.length dc] v3 ln w3) := Lib.hid ⟨HK2.out.1.next hb3, HK2.out.2.trans (hb3.mono HK2.out.2.size), own_base (obyt_own ho) (by have := Blk.lt HK2.out.1; omega), by have := Blk.lt HK2.out.1; have := hb3.size; omega⟩
      clear ho hb3 a0 a1 a2 a3 a4 a5 HK2 HLn
      obtain ⟨a0, a1, a2, a3, a4, a5⟩ := six HK3.out.1
      go_wp2_with fail
      refine (HSg.out (by have := HS3.out; omega) _ (HT.out.next HK3.out.2.1) (HR.out.next HK3.out.2.1)).mono ?_
      rintro e w4 ⟨v4, rfl, ho, hb4⟩
      have HK4 := Lib.hid (HK3.out.next hb4)
      obtain ⟨A4, c4, rfl⟩ := ho.form
      have HRd4 := Lib.hid ho.reads
      have HSn := Lib.hid (HSl.out HS3.out)
      clear ho hb4 a0 a1 a2 a3 a4 a5 HK3 HSl
      go_wp2_with (at_builtin; refine wpList_append_any _ rfl _ _ 24 rfl (w.heap.size + 1) 5 i0 _ 1 1 Tryd.underlying24 HI.out HZ0.out HZ1.out HZ2.out rfl (by decide) _ _ _ rfl (obyt_own HK4.out.2.2.1) w4.heap.size A4 sl.length c4 _ rfl HRd4.out (oby_one sl) (by have := HLc.out; have := HSn.out; have := HD5.out; unfold maxLen; simp; omega) (by have := HLc.out; have := HSn.out; have := HD5.out; simp; omega) HK4.out.2.2.2 ?_; intro v' W' hown' hg' hat'; have HK5 := Lib.hid (KO.append HK4.out hown' hg'); clear hown' hg' hat'; clear HK4; obtain ⟨a0, a1, a2, a3, a4, a5⟩ := six HK5.out.1)
      exact bodyPost_ret (v := .tuple #[v', .int .i64 0]) (by simp [results, Tryd.results8, go_sem]) rfl ⟨.inr ⟨by simp, _, rfl, HK5.out.2.2.1⟩, HK5.out.2.1⟩
    · skip
      have hbl := HB5.out (by simp)
      subst hbl
      have HLn : Hid (∀ W, Calls Tryd.prog 22 #[.int .u8 80, .bool eight] W fun e w' => ∃ v, e = .returned v ∧ OByt w' W.heap.size v (leadL 80 eight) ∧ Below W.heap.size W w') := Lib.hid (fun W => HLd.out 80 (by decide) W)
      have HLc := Lib.hid (HLl.out 80)
      generalize leadL 80 eight = ln at *
      clear HLd HLl HB1 HB3 HB4 HB5 HB6 HEs
      go_enter Tryd.func8, Tryd.ntmps8
      go_upto_region 1 with fail
      generalize w.alloc (.cells #[.int .i64 5, .int .u8 (c : Int), .int .u8 (m : Int), .slice P ps.length pc, .string s, .slice D dt.length dc] 29) = w1 at *
      obtain ⟨a0, a1, a2, a3, a4, a5⟩ := six HK.out.1
      go_wp2_with fail
      refine (HC.out _ (HR.out.next HK.out.2) (HD.out.next HK.out.2)).mono ?_
      rintro e w2 ⟨rfl, hb2⟩
      have HK2 := Lib.hid (HK.out.next hb2)
      clear hb2 a0 a1 a2 a3 a4 a5 HK HC
      obtain ⟨a0, a1, a2, a3, a4, a5⟩ := six HK2.out.1
      go_wp2_with fail
      refine (HLn.out _).mono ?_
      rintro e w3 ⟨v3, rfl, ho, hb3⟩
      have HK3 : Hid (KO w #[.int .i64 5, .int .u8 (c : Int), .int .u8 (m : Int), .slice P ps.length pc, .string s, .slice D dt.length dc] v3 ln w3) := Lib.hid ⟨HK2.out.1.next hb3, HK2.out.2.trans (hb3.mono HK2.out.2.size), own_base (obyt_own ho) (by have := Blk.lt HK2.out.1; omega), by have := Blk.lt HK2.out.1; have := hb3.size; omega⟩
      clear ho hb3 a0 a1 a2 a3 a4 a5 HK2 HLn
      obtain ⟨a0, a1, a2, a3, a4, a5⟩ := six HK3.out.1
      go_wp2_with fail
      refine (HSg.out (by have := HS3.out; omega) _ (HT.out.next HK3.out.2.1) (HR.out.next HK3.out.2.1)).mono ?_
      rintro e w4 ⟨v4, rfl, ho, hb4⟩
      have HK4 := Lib.hid (HK3.out.next hb4)
      obtain ⟨A4, c4, rfl⟩ := ho.form
      have HRd4 := Lib.hid ho.reads
      have HSn := Lib.hid (HSl.out HS3.out)
      clear ho hb4 a0 a1 a2 a3 a4 a5 HK3 HSl
      go_wp2_with (at_builtin; first | (refine wpList_append_any _ rfl _ _ 24 rfl (w.heap.size + 1) 5 i0 _ 1 1 Tryd.underlying24 HI.out HZ0.out HZ1.out HZ2.out rfl (by decide) _ _ _ rfl (obyt_own HK5.out.2.2.1) _ D dt.length dc _ rfl (HD.out.next HK5.out.2.1) (oby_one dt) (by have := HLc.out; have := HSn.out; have := HD5.out; unfold maxLen; simp; omega) (by have := HLc.out; have := HSn.out; have := HD5.out; simp; omega) HK5.out.2.2.2 ?_; intro v' W' hown' hg' hat'; have HK6 := Lib.hid (KO.append HK5.out hown' hg'); clear hown' hg' hat'; clear HK5) | (refine wpList_append_any _ rfl _ _ 24 rfl (w.heap.size + 1) 5 i0 _ 1 1 Tryd.underlying24 HI.out HZ0.out HZ1.out HZ2.out rfl (by decide) _ _ _ rfl (obyt_own HK4.out.2.2.1) w4.heap.size A4 sl.length c4 _ rfl HRd4.out (oby_one sl) (by have := HLc.out; have := HSn.out; have := HD5.out; unfold maxLen; simp; omega) (by have := HLc.out; have := HSn.out; have := HD5.out; simp; omega) HK4.out.2.2.2 ?_; intro v' W' hown' hg' hat'; have HK5 := Lib.hid (KO.append HK4.out hown' hg'); clear hown' hg' hat'; clear HK4; obtain ⟨a0, a1, a2, a3, a4, a5⟩ := six HK5.out.1))
      refine (HL92.out _).mono ?_
      rintro e w7 ⟨v7, rfl, ho, hb7⟩
      have HK7 := Lib.hid (HK6.out.next hb7)
      obtain ⟨A7, c7, rfl⟩ := ho.form
      have HRd7 := Lib.hid ho.reads
      clear ho hb7 HK6
      go_wp2_with (at_builtin; refine wpList_append_any _ rfl _ _ 24 rfl (w.heap.size + 1) 5 i0 _ 1 1 Tryd.underlying24 HI.out HZ0.out HZ1.out HZ2.out rfl (by decide) _ _ _ rfl (obyt_own HK7.out.2.2.1) w7.heap.size A7 l92.length c7 _ rfl HRd7.out (oby_one l92) (by have := HLc.out; have := HSn.out; have := HD5.out; have := H92l.out; unfold maxLen; simp; omega) (by have := HLc.out; have := HSn.out; have := HD5.out; have := H92l.out; simp; omega) HK7.out.2.2.2 ?_; intro v' W' hown' hg' hat'; have HK8 := Lib.hid (KO.append HK7.out hown' hg'); clear hown' hg' hat'; clear HK7)
      exact bodyPost_ret (v := .tuple #[v', .int .i64 0]) (by simp [results, Tryd.results8, go_sem]) rfl ⟨.inr ⟨by simp, _, rfl, HK8.out.2.2.1⟩, HK8.out.2.1⟩
    · skip
      have hbl := HB6.out 93 (by simp)
      subst hbl
      have HLn : Hid (∀ W, Calls Tryd.prog 22 #[.int .u8 93, .bool eight] W fun e w' => ∃ v, e = .returned v ∧ OByt w' W.heap.size v (leadL 93 eight) ∧ Below W.heap.size W w') := Lib.hid (fun W => HLd.out 93 (by decide) W)
      have HLc := Lib.hid (HLl.out 93)
      generalize leadL 93 eight = ln at *
      clear HLd HLl HB1 HB3 HB4 HB5 HB6 HEs
      go_enter Tryd.func8, Tryd.ntmps8
      go_upto_region 1 with fail
      generalize w.alloc (.cells #[.int .i64 6, .int .u8 (c : Int), .int .u8 (m : Int), .slice P ps.length pc, .string s, .slice D dt.length dc] 29) = w1 at *
      obtain ⟨a0, a1, a2, a3, a4, a5⟩ := six HK.out.1
      go_wp2_with fail
      refine (HC.out _ (HR.out.next HK.out.2) (HD.out.next HK.out.2)).mono ?_
      rintro e w2 ⟨rfl, hb2⟩
      have HK2 := Lib.hid (HK.out.next hb2)
      clear hb2 a0 a1 a2 a3 a4 a5 HK HC
      obtain ⟨a0, a1, a2, a3, a4, a5⟩ := six HK2.out.1
      go_wp2_with fail
      refine (HLn.out _).mono ?_
      rintro e w3 ⟨v3, rfl, ho, hb3⟩
      have HK3 : Hid (KO w #[.int .i64 6, .int .u8 (c : Int), .int .u8 (m : Int), .slice P ps.length pc, .string s, .slice D dt.length dc] v3 ln w3) := Lib.hid ⟨HK2.out.1.next hb3, HK2.out.2.trans (hb3.mono HK2.out.2.size), own_base (obyt_own ho) (by have := Blk.lt HK2.out.1; omega), by have := Blk.lt HK2.out.1; have := hb3.size; omega⟩
      clear ho hb3 a0 a1 a2 a3 a4 a5 HK2 HLn
      obtain ⟨a0, a1, a2, a3, a4, a5⟩ := six HK3.out.1
      go_wp2_with (at_builtin; refine wpList_append_any _ rfl _ _ 24 rfl (w.heap.size + 1) 5 i0 _ 1 1 Tryd.underlying24 HI.out HZ0.out HZ1.out HZ2.out rfl (by decide) _ _ _ rfl (obyt_own HK3.out.2.2.1) _ D dt.length dc _ rfl (HD.out.next HK3.out.2.1) (oby_one dt) (by have := HLc.out; have := HD5.out; unfold maxLen; simp; omega) (by have := HLc.out; have := HD5.out; simp; omega) HK3.out.2.2.2 ?_; intro v' W' hown' hg' hat'; have HK6 := Lib.hid (KO.append HK3.out hown' hg'); clear hown' hg' hat'; clear HK3)
      refine (HL92.out _).mono ?_
      rintro e w7 ⟨v7, rfl, ho, hb7⟩
      have HK7 := Lib.hid (HK6.out.next hb7)
      obtain ⟨A7, c7, rfl⟩ := ho.form
      have HRd7 := Lib.hid ho.reads
      clear ho hb7 HK6
      go_wp2_with (at_builtin; refine wpList_append_any _ rfl _ _ 24 rfl (w.heap.size + 1) 5 i0 _ 1 1 Tryd.underlying24 HI.out HZ0.out HZ1.out HZ2.out rfl (by decide) _ _ _ rfl (obyt_own HK7.out.2.2.1) w7.heap.size A7 l92.length c7 _ rfl HRd7.out (oby_one l92) (by have := HLc.out; have := HD5.out; have := H92l.out; unfold maxLen; simp; omega) (by have := HLc.out; have := HD5.out; have := H92l.out; simp; omega) HK7.out.2.2.2 ?_; intro v' W' hown' hg' hat'; have HK8 := Lib.hid (KO.append HK7.out hown' hg'); clear hown' hg' hat'; clear HK7)
      exact bodyPost_ret (v := .tuple #[v', .int .i64 0]) (by simp [results, Tryd.results8, go_sem]) rfl ⟨.inr ⟨by simp, _, rfl, HK8.out.2.2.1⟩, HK8.out.2.1⟩
    · skip
      have hbl := HB6.out 88 (.inr (by simp))
      subst hbl
      have HLn : Hid (∀ W, Calls Tryd.prog 22 #[.int .u8 88, .bool eight] W fun e w' => ∃ v, e = .returned v ∧ OByt w' W.heap.size v (leadL 88 eight) ∧ Below W.heap.size W w') := Lib.hid (fun W => HLd.out 88 (by decide) W)
      have HLc := Lib.hid (HLl.out 88)
      generalize leadL 88 eight = ln at *
      clear HLd HLl HB1 HB3 HB4 HB5 HB6 HEs
      go_enter Tryd.func8, Tryd.ntmps8
      go_upto_region 1 with fail
      generalize w.alloc (.cells #[.int .i64 7, .int .u8 (c : Int), .int .u8 (m : Int), .slice P ps.length pc, .string s, .slice D dt.length dc] 29) = w1 at *
      obtain ⟨a0, a1, a2, a3, a4, a5⟩ := six HK.out.1
      go_wp2_with fail
      refine (HC.out _ (HR.out.next HK.out.2) (HD.out.next HK.out.2)).mono ?_
      rintro e w2 ⟨rfl, hb2⟩
      have HK2 := Lib.hid (HK.out.next hb2)
      clear hb2 a0 a1 a2 a3 a4 a5 HK HC
      obtain ⟨a0, a1, a2, a3, a4, a5⟩ := six HK2.out.1
      go_wp2_with fail
      refine (HLn.out _).mono ?_
      rintro e w3 ⟨v3, rfl, ho, hb3⟩
      have HK3 : Hid (KO w #[.int .i64 7, .int .u8 (c : Int), .int .u8 (m : Int), .slice P ps.length pc, .string s, .slice D dt.length dc] v3 ln w3) := Lib.hid ⟨HK2.out.1.next hb3, HK2.out.2.trans (hb3.mono HK2.out.2.size), own_base (obyt_own ho) (by have := Blk.lt HK2.out.1; omega), by have := Blk.lt HK2.out.1; have := hb3.size; omega⟩
      clear ho hb3 a0 a1 a2 a3 a4 a5 HK2 HLn
      obtain ⟨a0, a1, a2, a3, a4, a5⟩ := six HK3.out.1
      go_wp2_with (at_builtin; refine wpList_append_any _ rfl _ _ 24 rfl (w.heap.size + 1) 5 i0 _ 1 1 Tryd.underlying24 HI.out HZ0.out HZ1.out HZ2.out rfl (by decide) _ _ _ rfl (obyt_own HK3.out.2.2.1) _ D dt.length dc _ rfl (HD.out.next HK3.out.2.1) (oby_one dt) (by have := HLc.out; have := HD5.out; unfold maxLen; simp; omega) (by have := HLc.out; have := HD5.out; simp; omega) HK3.out.2.2.2 ?_; intro v' W' hown' hg' hat'; have HK6 := Lib.hid (KO.append HK3.out hown' hg'); clear hown' hg' hat'; clear HK3)
      refine (HL92.out _).mono ?_
      rintro e w7 ⟨v7, rfl, ho, hb7⟩
      have HK7 := Lib.hid (HK6.out.next hb7)
      obtain ⟨A7, c7, rfl⟩ := ho.form
      have HRd7 := Lib.hid ho.reads
      clear ho hb7 HK6
      go_wp2_with (at_builtin; refine wpList_append_any _ rfl _ _ 24 rfl (w.heap.size + 1) 5 i0 _ 1 1 Tryd.underlying24 HI.out HZ0.out HZ1.out HZ2.out rfl (by decide) _ _ _ rfl (obyt_own HK7.out.2.2.1) w7.heap.size A7 l92.length c7 _ rfl HRd7.out (oby_one l92) (by have := HLc.out; have := HD5.out; have := H92l.out; unfold maxLen; simp; omega) (by have := HLc.out; have := HD5.out; have := H92l.out; simp; omega) HK7.out.2.2.2 ?_; intro v' W' hown' hg' hat'; have HK8 := Lib.hid (KO.append HK7.out hown' hg'); clear hown' hg' hat'; clear HK7)
      exact bodyPost_ret (v := .tuple #[v', .int .i64 0]) (by simp [results, Tryd.results8, go_sem]) rfl ⟨.inr ⟨by simp, _, rfl, HK8.out.2.2.1⟩, HK8.out.2.1⟩
    · skip
      have hbl := HB6.out 94 (.inr (.inr (by simp)))
      subst hbl
      have HLn : Hid (∀ W, Calls Tryd.prog 22 #[.int .u8 94, .bool eight] W fun e w' => ∃ v, e = .returned v ∧ OByt w' W.heap.size v (leadL 94 eight) ∧ Below W.heap.size W w') := Lib.hid (fun W => HLd.out 94 (by decide) W)
      have HLc := Lib.hid (HLl.out 94)
      generalize leadL 94 eight = ln at *
      clear HLd HLl HB1 HB3 HB4 HB5 HB6 HEs
      go_enter Tryd.func8, Tryd.ntmps8
      go_upto_region 1 with fail
      generalize w.alloc (.cells #[.int .i64 8, .int .u8 (c : Int), .int .u8 (m : Int), .slice P ps.length pc, .string s, .slice D dt.length dc] 29) = w1 at *
      obtain ⟨a0, a1, a2, a3, a4, a5⟩ := six HK.out.1
      go_wp2_with fail
      refine (HC.out _ (HR.out.next HK.out.2) (HD.out.next HK.out.2)).mono ?_
      rintro e w2 ⟨rfl, hb2⟩
      have HK2 := Lib.hid (HK.out.next hb2)
      clear hb2 a0 a1 a2 a3 a4 a5 HK HC
      obtain ⟨a0, a1, a2, a3, a4, a5⟩ := six HK2.out.1
      go_wp2_with fail
      refine (HLn.out _).mono ?_
      rintro e w3 ⟨v3, rfl, ho, hb3⟩
      have HK3 : Hid (KO w #[.int .i64 8, .int .u8 (c : Int), .int .u8 (m : Int), .slice P ps.length pc, .string s, .slice D dt.length dc] v3 ln w3) := Lib.hid ⟨HK2.out.1.next hb3, HK2.out.2.trans (hb3.mono HK2.out.2.size), own_base (obyt_own ho) (by have := Blk.lt HK2.out.1; omega), by have := Blk.lt HK2.out.1; have := hb3.size; omega⟩
      clear ho hb3 a0 a1 a2 a3 a4 a5 HK2 HLn
      obtain ⟨a0, a1, a2, a3, a4, a5⟩ := six HK3.out.1
      go_wp2_with (at_builtin; refine wpList_append_any _ rfl _ _ 24 rfl (w.heap.size + 1) 5 i0 _ 1 1 Tryd.underlying24 HI.out HZ0.out HZ1.out HZ2.out rfl (by decide) _ _ _ rfl (obyt_own HK3.out.2.2.1) _ D dt.length dc _ rfl (HD.out.next HK3.out.2.1) (oby_one dt) (by have := HLc.out; have := HD5.out; unfold maxLen; simp; omega) (by have := HLc.out; have := HD5.out; simp; omega) HK3.out.2.2.2 ?_; intro v' W' hown' hg' hat'; have HK6 := Lib.hid (KO.append HK3.out hown' hg'); clear hown' hg' hat'; clear HK3)
      refine (HL92.out _).mono ?_
      rintro e w7 ⟨v7, rfl, ho, hb7⟩
      have HK7 := Lib.hid (HK6.out.next hb7)
      obtain ⟨A7, c7, rfl⟩ := ho.form
      have HRd7 := Lib.hid ho.reads
      clear ho hb7 HK6
      go_wp2_with (at_builtin; refine wpList_append_any _ rfl _ _ 24 rfl (w.heap.size + 1) 5 i0 _ 1 1 Tryd.underlying24 HI.out HZ0.out HZ1.out HZ2.out rfl (by decide) _ _ _ rfl (obyt_own HK7.out.2.2.1) w7.heap.size A7 l92.length c7 _ rfl HRd7.out (oby_one l92) (by have := HLc.out; have := HD5.out; have := H92l.out; unfold maxLen; simp; omega) (by have := HLc.out; have := HD5.out; have := H92l.out; simp; omega) HK7.out.2.2.2 ?_; intro v' W' hown' hg' hat'; have HK8 := Lib.hid (KO.append HK7.out hown' hg'); clear hown' hg' hat'; clear HK7)
      exact bodyPost_ret (v := .tuple #[v', .int .i64 0]) (by simp [results, Tryd.results8, go_sem]) rfl ⟨.inr ⟨by simp, _, rfl, HK8.out.2.2.1⟩, HK8.out.2.1⟩
    · skip
      have hbl := HB6.out 95 (by simp)
      subst hbl
      have HLn : Hid (∀ W, Calls Tryd.prog 22 #[.int .u8 95, .bool eight] W fun e w' => ∃ v, e = .returned v ∧ OByt w' W.heap.size v (leadL 95 eight) ∧ Below W.heap.size W w') := Lib.hid (fun W => HLd.out 95 (by decide) W)
      have HLc := Lib.hid (HLl.out 95)
      generalize leadL 95 eight = ln at *
      clear HLd HLl HB1 HB3 HB4 HB5 HB6 HEs
      go_enter Tryd.func8, Tryd.ntmps8
      go_upto_region 1 with fail
      generalize w.alloc (.cells #[.int .i64 9, .int .u8 (c : Int), .int .u8 (m : Int), .slice P ps.length pc, .string s, .slice D dt.length dc] 29) = w1 at *
      obtain ⟨a0, a1, a2, a3, a4, a5⟩ := six HK.out.1
      go_wp2_with fail
      refine (HC.out _ (HR.out.next HK.out.2) (HD.out.next HK.out.2)).mono ?_
      rintro e w2 ⟨rfl, hb2⟩
      have HK2 := Lib.hid (HK.out.next hb2)
      clear hb2 a0 a1 a2 a3 a4 a5 HK HC
      obtain ⟨a0, a1, a2, a3, a4, a5⟩ := six HK2.out.1
      go_wp2_with fail
      refine (HLn.out _).mono ?_
      rintro e w3 ⟨v3, rfl, ho, hb3⟩
      have HK3 : Hid (KO w #[.int .i64 9, .int .u8 (c : Int), .int .u8 (m : Int), .slice P ps.length pc, .string s, .slice D dt.length dc] v3 ln w3) := Lib.hid ⟨HK2.out.1.next hb3, HK2.out.2.trans (hb3.mono HK2.out.2.size), own_base (obyt_own ho) (by have := Blk.lt HK2.out.1; omega), by have := Blk.lt HK2.out.1; have := hb3.size; omega⟩
      clear ho hb3 a0 a1 a2 a3 a4 a5 HK2 HLn
      obtain ⟨a0, a1, a2, a3, a4, a5⟩ := six HK3.out.1
      go_wp2_with (at_builtin; refine wpList_append_any _ rfl _ _ 24 rfl (w.heap.size + 1) 5 i0 _ 1 1 Tryd.underlying24 HI.out HZ0.out HZ1.out HZ2.out rfl (by decide) _ _ _ rfl (obyt_own HK3.out.2.2.1) _ D dt.length dc _ rfl (HD.out.next HK3.out.2.1) (oby_one dt) (by have := HLc.out; have := HD5.out; unfold maxLen; simp; omega) (by have := HLc.out; have := HD5.out; simp; omega) HK3.out.2.2.2 ?_; intro v' W' hown' hg' hat'; have HK6 := Lib.hid (KO.append HK3.out hown' hg'); clear hown' hg' hat'; clear HK3)
      refine (HL92.out _).mono ?_
      rintro e w7 ⟨v7, rfl, ho, hb7⟩
      have HK7 := Lib.hid (HK6.out.next hb7)
      obtain ⟨A7, c7, rfl⟩ := ho.form
      have HRd7 := Lib.hid ho.reads
      clear ho hb7 HK6
      go_wp2_with (at_builtin; refine wpList_append_any _ rfl _ _ 24 rfl (w.heap.size + 1) 5 i0 _ 1 1 Tryd.underlying24 HI.out HZ0.out HZ1.out HZ2.out rfl (by decide) _ _ _ rfl (obyt_own HK7.out.2.2.1) w7.heap.size A7 l92.length c7 _ rfl HRd7.out (oby_one l92) (by have := HLc.out; have := HD5.out; have := H92l.out; unfold maxLen; simp; omega) (by have := HLc.out; have := HD5.out; have := H92l.out; simp; omega) HK7.out.2.2.2 ?_; intro v' W' hown' hg' hat'; have HK8 := Lib.hid (KO.append HK7.out hown' hg'); clear hown' hg' hat'; clear HK7)
      exact bodyPost_ret (v := .tuple #[v', .int .i64 0]) (by simp [results, Tryd.results8, go_sem]) rfl ⟨.inr ⟨by simp, _, rfl, HK8.out.2.2.1⟩, HK8.out.2.1⟩
  · have hne : (ck != 0) = true := by simpa using h0
    have H0 := Lib.hid h0
    clear h0
    go_enter Tryd.func8, Tryd.ntmps8
    go_upto_region 1 with fail
    generalize w.alloc (.cells #[.int .i64 k, .int .u8 (c : Int), .int .u8 (m : Int), .slice P ps.length pc, .string s, .slice D dt.length dc] 29) = w1 at *
    obtain ⟨a0, a1, a2, a3, a4, a5⟩ := six HK.out.1
    go_wp2_with fail
    refine (HC.out _ (HR.out.next HK.out.2) (HD.out.next HK.out.2)).mono ?_
    rintro e w2 ⟨rfl, hb2⟩
    have HK2 := Lib.hid (HK.out.next hb2)
    clear hb2 a0 a1 a2 a3 a4 a5 HK HC
    obtain ⟨a0, a1, a2, a3, a4, a5⟩ := six HK2.out.1
    go_wp2_with fail
    exact bodyPost_ret (v := .tuple #[.slice none 0 0, .int .i64 ck]) (by simp [results, Tryd.results8, go_sem]) rfl ⟨.inl ⟨H0.out, rfl⟩, HK2.out.2⟩
end Go.Proofs.YtpiliicphoacfaaDoor

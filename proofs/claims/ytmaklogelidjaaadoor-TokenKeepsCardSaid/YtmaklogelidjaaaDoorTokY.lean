/-
  Tokens, the document's own answers: their bytes.
-/
import Derived.Test.YtmaklogelidjaaaDoorTokX
import Derived.Test.YtmaklogelidjaaaDoorParM
namespace Go.Proofs.YtmaklogelidjaaaDoor

open Go Go.RowKit

theorem str_world (W : World) (s : ByteArray) : Below W.heap.size W (Lib.bytesWorld W 5 s) ∧ RByt (Lib.bytesWorld W 5 s) (some ⟨W.heap.size, 0, none⟩) (natL s.data.toList) := by
  obtain ⟨u, w', hr, _, hF, hb⟩ := str_made W.heap.size s W (Nat.le_refl _)
  rw [Lib.run_convert_string_bytes W 9 23 5 s Tryd.underlying9 Tryd.underlying23 Tryd.underlying5] at hr
  injection hr with e1 e2
  subst e1 e2
  refine ⟨hb, by simp, fun hn => ⟨⟨W.heap.size, 0, none⟩, rfl, by rw [Lib.bytesWorld_size]; simp, fun j u hu => ?_⟩⟩
  refine str_cell hF j u ?_
  rw [strCells_nat]
  exact hu
/-- The token of the call's own, and the bytes so far. -/
def KR (w : World) (x : Array Value) (v : Value) (l : List Nat) (W : World) : Prop := Blk W w.heap.size 25 x ∧ Below w.heap.size w W ∧ OByt W (w.heap.size + 1) v l ∧ w.heap.size + 1 ≤ W.heap.size
theorem KR.next {w W W' : World} {x : Array Value} {v : Value} {l : List Nat} (h : KR w x v l W) (hb : Below W.heap.size W W') : KR w x v l W' := ⟨h.1.next hb, h.2.1.trans (hb.mono h.2.1.size), h.2.2.1.next hb, Nat.le_trans h.2.2.2 hb.size⟩
theorem KR.append {w W W' : World} {x : Array Value} {v v' : Value} {l r : List Nat} (h : KR w x v l W) (ho : W'.ownsRow (w.heap.size + 1) 5 1 v' (l.length + r.length) (l.map (fun (n : Nat) => Value.int .u8 (n : Int)) ++ r.map (fun (n : Nat) => Value.int .u8 (n : Int)))) (hg : W.grownBy W' v.ownBlock) : KR w x v' (l ++ r) W' :=
  ⟨h.1.below (below_str h.2.2.1 h.2.2.2 hg) (by omega), h.2.1.trans ((below_str h.2.2.1 h.2.2.2 hg).mono (by omega)), by unfold OByt; rw [List.length_append, List.map_append]; exact ho, Nat.le_trans h.2.2.2 (below_str h.2.2.1 h.2.2.2 hg).size⟩
theorem ko_start {w w2 w3 : World} {x : Array Value} {v : Value} {l : List Nat} (h : K1 w 25 x w2) (ho : OByt w3 w2.heap.size v l) (hb : Below w2.heap.size w2 w3) : KR w x v l w3 :=
  ⟨h.1.next hb, h.2.trans (hb.mono h.2.size), own_base (obyt_own ho) (by have := Blk.lt h.1; omega), by have := Blk.lt h.1; have := hb.size; omega⟩

theorem KR.appendN {w W W' : World} {x : Array Value} {v v' : Value} {l r : List Nat} {n : Nat} (hn : r.length = n) (h : KR w x v l W) (ho : W'.ownsRow (w.heap.size + 1) 5 1 v' (l.length + n) (l.map (fun (n : Nat) => Value.int .u8 (n : Int)) ++ r.map (fun (n : Nat) => Value.int .u8 (n : Int)))) (hg : W.grownBy W' v.ownBlock) : KR w x v' (l ++ r) W' := by
  subst hn; exact KR.append h ho hg
theorem str_reads (W : World) (s : ByteArray) : Reads (Lib.bytesWorld W 5 s) (Lib.bytesWorld W 5 s).heap.size 1 (some ⟨W.heap.size, 0, none⟩) s.size ((natL s.data.toList).map fun (n : Nat) => Value.int .u8 (n : Int)) := by
  have h := (str_world W s).2
  unfold RByt at h
  rw [natL_len, dlen] at h
  exact h
theorem lit_reads (W : World) (n : Nat) : RByt (W.alloc (.cells #[.int .u8 (n : Int)] 5)) (some ⟨W.heap.size, 0, none⟩) [n] := Reads.of_own (World.ownsRow_lit (e := 5) (size := 1) W #[.int .u8 (n : Int)] 1 (Nat.le_refl _) (by unfold maxLen; omega) rfl)

set_option maxRecDepth 100000 in
set_option maxHeartbeats 16000000 in
set_option linter.unusedSimpArgs false in
set_option linter.unusedVariables false in
theorem refBytes_any (k : Int) (c m : Nat) (P : Option Addr) (ps : List Int) (pc : Nat) (s : ByteArray) (D : Option Addr) (dt : List Nat) (dc : Nat) (hz : checkP k c m ps s dt = 0) (hc : c < 256) (hp : ps.length ≤ maxLen) (hd : dt.length ≤ maxLen) (eight : Bool) (w : World) (hr : RInts w P ps) (hb : RByt w D dt) :
    Calls Tryd.prog 9 #[.agg (tkC k (c : Int) (m : Int) P ps pc s D dt dc), .bool eight] w fun e w' => ∃ v, e = .returned v ∧ OByt w' w.heap.size v (bytesL k c m ps s dt eight) ∧ Below w.heap.size w w' := by
  obtain ⟨z1, z2, z3, z4, z5, _, _, _, _⟩ := check_zero hz
  have hV := tk_valid hz
  have HR := Lib.hid hr; have HD := Lib.hid hb
  have HK := Lib.hid (K1.start w 25 (tkC k (c : Int) (m : Int) P ps pc s D dt dc))
  have HPr := Lib.hid (fun n h W => refPair_any n h eight W)
  have HFm := Lib.hid (fun W h => refFormat_any P pc ps hp W h)
  have HLl := Lib.hid (fun n => lead_len n eight)
  have hfl := fmt_len ps
  obtain ⟨i0, hi0, hz0, hz1, hz2⟩ := info_u8
  have HI := Lib.hid hi0; have HZ0 := Lib.hid hz0; have HZ1 := Lib.hid hz1; have HZ2 := Lib.hid hz2
  clear hr hb hz hi0 hz0 hz1 hz2 hp hd
  have hks : k = 1 ∨ k = 2 ∨ k = 3 ∨ k = 4 ∨ k = 5 ∨ k = 6 ∨ k = 7 ∨ k = 8 ∨ k = 9 := by omega
  have HS3 := Lib.hid z3; have HD5 := Lib.hid z5; have HFL := Lib.hid hfl
  clear z1 z2 z3 z4 z5 hfl
  have hcv : ∀ (W : World) (s : ByteArray), (convert 9 23 (.string s)).run Tryd.prog W = .ok (.slice (some ⟨W.heap.size, 0, none⟩) s.size (grownCap W s.size 0 5)) (Lib.bytesWorld W 5 s) := fun W s => Lib.run_convert_string_bytes W 9 23 5 s Tryd.underlying9 Tryd.underlying23 Tryd.underlying5
  have HCV := Lib.hid hcv
  clear hcv
  rcases hks with rfl | rfl | rfl | rfl | rfl | rfl | rfl | rfl | rfl
  · skip
    show Calls _ _ _ _ fun e w' => ∃ v, e = .returned v ∧ OByt w' w.heap.size v [c] ∧ _
    unfold tkC at *
    go_enter Tryd.func9, Tryd.ntmps9
    go_upto_region 1 with fail
    generalize w.alloc (.cells #[.int .i64 1, .int .u8 (c : Int), .int .u8 (m : Int), .slice P ps.length pc, .string s, .slice D dt.length dc] 25) = w1 at *
    obtain ⟨a0, a1, a2, a3, a4, a5⟩ := six HK.out.1
    have HO : Hid (OByt (w1.alloc (.cells #[.int .u8 (c : Int)] 5)) w.heap.size (.slice (some ⟨w1.heap.size, 0, none⟩) 1 1) [c]) := Lib.hid (World.ownsRow_lit (e := 5) (size := 1) w1 #[.int .u8 (c : Int)] 1 HK.out.2.size (by unfold maxLen; omega) rfl)
    have HB := Lib.hid (HK.out.2.alloc HK.out.2.size (.cells #[.int .u8 (c : Int)] 5))
    go_wp2_with fail
    go_ret
    exact ⟨_, rfl, HO.out, HB.out⟩
  · skip
    show Calls _ _ _ _ fun e w' => ∃ v, e = .returned v ∧ OByt w' w.heap.size v [c] ∧ _
    unfold tkC at *
    go_enter Tryd.func9, Tryd.ntmps9
    go_upto_region 1 with fail
    generalize w.alloc (.cells #[.int .i64 2, .int .u8 (c : Int), .int .u8 (m : Int), .slice P ps.length pc, .string s, .slice D dt.length dc] 25) = w1 at *
    obtain ⟨a0, a1, a2, a3, a4, a5⟩ := six HK.out.1
    have HO : Hid (OByt (w1.alloc (.cells #[.int .u8 (c : Int)] 5)) w.heap.size (.slice (some ⟨w1.heap.size, 0, none⟩) 1 1) [c]) := Lib.hid (World.ownsRow_lit (e := 5) (size := 1) w1 #[.int .u8 (c : Int)] 1 HK.out.2.size (by unfold maxLen; omega) rfl)
    have HB := Lib.hid (HK.out.2.alloc HK.out.2.size (.cells #[.int .u8 (c : Int)] 5))
    go_wp2_with fail
    go_ret
    exact ⟨_, rfl, HO.out, HB.out⟩
  · skip
    have hv3 : m = 0 ∧ ps = [] := by
      rcases hV with h | h | h | h | h
      · have := h.1; omega
      · exact ⟨h.2.2.2.2.2.1, h.2.2.2.2.2.2.1⟩
      · have := h.1; omega
      · have := h.1; omega
      · have := h.1; omega
    by_cases hs : s.size = 0
    · have e : bytesL 3 c m ps s dt eight = leadL c eight := by show escL c m ps s eight = _; unfold escL; rw [if_pos hs]
      rw [e]
      have hnil : s.toList = [] := by rw [ByteArray.toList_eq]; exact List.length_eq_zero_iff.1 hs
      clear e hs hV hv3
      have HC := Lib.hid (fun W => HPr.out c hc W)
      unfold tkC at *
      go_enter Tryd.func9, Tryd.ntmps9
      go_upto_region 1 with fail
      generalize w.alloc (.cells #[.int .i64 3, .int .u8 (c : Int), .int .u8 (m : Int), .slice P ps.length pc, .string s, .slice D dt.length dc] 25) = w1 at *
      obtain ⟨a0, a1, a2, a3, a4, a5⟩ := six HK.out.1
      go_wp2_with fail
      refine (HC.out _).mono ?_
      rintro e w2 ⟨v, rfl, ho, hb2⟩
      have HO := Lib.hid (own_base (obyt_own ho) (b' := w.heap.size) HK.out.2.size)
      have HB := Lib.hid (HK.out.2.trans (hb2.mono HK.out.2.size))
      clear ho hb2 a0 a1 a2 a3 a4 a5
      go_wp2_with fail
      go_ret
      exact ⟨v, rfl, HO.out, HB.out⟩
    · have e : bytesL 3 c m ps s dt eight = 27 :: (natL s.data.toList ++ [c]) := by
        show escL c m ps s eight = _
        unfold escL signsL
        rw [if_neg hs, if_pos hv3.1, hv3.2, fmt_none]
        rfl
      rw [e]
      exact refBytes3_any c m P ps pc s D dt dc hs HS3.out eight w
  · skip
    have e : bytesL 4 c m ps s dt eight = leadL 91 eight ++ signsL c m ps s := by
      show leadL 91 eight ++ signsL c m ps s ++ [] = _
      simp
    rw [e]
    clear e hV
    have HB := Lib.hid (fun (W : World) => (begins_any 4 (by omega) W : Calls Tryd.prog 23 #[.int .i64 4] W fun e w' => e = .returned (.int .u8 91) ∧ W = w'))
    have HC : Hid (∀ W, Calls Tryd.prog 22 #[.int .u8 91, .bool eight] W fun e w' => ∃ v, e = .returned v ∧ OByt w' W.heap.size v (leadL 91 eight) ∧ Below W.heap.size W w') := Lib.hid (fun W => HPr.out 91 (by decide) W)
    have HC2 : Hid (∀ W, Calls Tryd.prog 22 #[.int .u8 92, .bool eight] W fun e w' => ∃ v, e = .returned v ∧ OByt w' W.heap.size v (leadL 92 eight) ∧ Below W.heap.size W w') := Lib.hid (fun W => HPr.out 92 (by decide) W)
    have H1l := Lib.hid (HLl.out 91)
    have H2l := Lib.hid (HLl.out 92)
    clear HPr HLl
    unfold signsL
    generalize leadL 91 eight = l1 at *
    generalize leadL 92 eight = l92 at *
    by_cases hm : m = 0
    · rw [if_pos hm]
      have hmf : ((m : Int) != 0) = false := by simp; exact hm
      clear hm
      unfold tkC at *
      go_enter Tryd.func9, Tryd.ntmps9
      go_upto_region 1 with fail
      generalize w.alloc (.cells #[.int .i64 4, .int .u8 (c : Int), .int .u8 (m : Int), .slice P ps.length pc, .string s, .slice D dt.length dc] 25) = w1 at *
      obtain ⟨a0, a1, a2, a3, a4, a5⟩ := six HK.out.1
      go_wp2_with fail
      refine (HB.out _).mono ?_
      rintro e w2 ⟨rfl, rfl⟩
      go_wp2_with fail
      refine (HC.out _).mono ?_
      rintro e w3 ⟨v3, rfl, ho, hb3⟩
      have HK3 := Lib.hid (ko_start HK.out ho hb3)
      clear ho hb3 a0 a1 a2 a3 a4 a5 HK HB HC
      obtain ⟨a0, a1, a2, a3, a4, a5⟩ := six HK3.out.1
      go_upto_region 11 with fail
      have HK4 := HK3
      clear a0 a1 a2 a3 a4 a5
      obtain ⟨a0, a1, a2, a3, a4, a5⟩ := six HK4.out.1
      go_wp2_with fail
      refine (HFm.out _ (HR.out.next HK4.out.2.1)).mono ?_
      rintro e w5 ⟨rfl, hb5⟩
      have HK5 := Lib.hid (KR.next HK4.out hb5)
      clear hb5 a0 a1 a2 a3 a4 a5
      have hcv1 := HCV.out w5 (bytesOf (fmtL ps))
      go_upto_region 12 with (at_builtin; have HK5a := Lib.hid (KR.next HK5.out (str_world w5 (bytesOf (fmtL ps))).1); refine wpList_append_any _ rfl _ _ 23 rfl (w.heap.size + 1) 5 i0 _ 1 1 Tryd.underlying23 HI.out HZ0.out HZ1.out HZ2.out rfl (by decide) _ _ _ rfl (obyt_own HK5a.out.2.2.1) _ (some ⟨w5.heap.size, 0, none⟩) (bytesOf (fmtL ps)).size _ _ rfl (str_reads w5 (bytesOf (fmtL ps))) (oby_one (natL (bytesOf (fmtL ps)).data.toList)) (by have := H1l.out; have := H2l.out; have := HFL.out; have := HS3.out; have := HD5.out; have := bytesOf_size (fmtL ps); unfold maxLen; simp [natL_len, dlen]; omega) (by have := H1l.out; have := H2l.out; have := HFL.out; have := HS3.out; have := HD5.out; have := bytesOf_size (fmtL ps); simp [natL_len, dlen]; omega) HK5a.out.2.2.2 ?_; intro v6 w6 hown' hg' hat'; have HK6 := Lib.hid (KR.appendN (by simp [natL_len, dlen]) HK5a.out hown' hg'); clear hown' hg' hat')
      clear hcv1
      obtain ⟨a0, a1, a2, a3, a4, a5⟩ := six HK6.out.1
      have hcv1 := HCV.out w6 s
      go_upto_region 13 with (at_builtin; have HK6a := Lib.hid (KR.next HK6.out (str_world w6 s).1); refine wpList_append_any _ rfl _ _ 23 rfl (w.heap.size + 1) 5 i0 _ 1 1 Tryd.underlying23 HI.out HZ0.out HZ1.out HZ2.out rfl (by decide) _ _ _ rfl (obyt_own HK6a.out.2.2.1) _ (some ⟨w6.heap.size, 0, none⟩) s.size _ _ rfl (str_reads w6 s) (oby_one (natL s.data.toList)) (by have := H1l.out; have := H2l.out; have := HFL.out; have := HS3.out; have := HD5.out; have := bytesOf_size (fmtL ps); unfold maxLen; simp [natL_len, dlen]; omega) (by have := H1l.out; have := H2l.out; have := HFL.out; have := HS3.out; have := HD5.out; have := bytesOf_size (fmtL ps); simp [natL_len, dlen]; omega) HK6a.out.2.2.2 ?_; intro v9 w9 hown' hg' hat'; have HK9 := Lib.hid (KR.appendN (by simp [natL_len, dlen]) HK6a.out hown' hg'); clear hown' hg' hat')
      clear hcv1 a0 a1 a2 a3 a4 a5
      obtain ⟨a0, a1, a2, a3, a4, a5⟩ := six HK9.out.1
      go_upto_region 14 with (at_builtin; have HK9a := Lib.hid (KR.next HK9.out ((Below.refl _ _).alloc (Nat.le_refl _) (.cells #[.int .u8 (c : Int)] 5))); refine wpList_append_any _ rfl _ _ 23 rfl (w.heap.size + 1) 5 i0 _ 1 1 Tryd.underlying23 HI.out HZ0.out HZ1.out HZ2.out rfl (by decide) _ _ _ rfl (obyt_own HK9a.out.2.2.1) _ (some ⟨w9.heap.size, 0, none⟩) 1 1 _ rfl (lit_reads w9 c) (oby_one [c]) (by have := H1l.out; have := H2l.out; have := HFL.out; have := HS3.out; have := HD5.out; have := bytesOf_size (fmtL ps); unfold maxLen; simp [natL_len, dlen]; omega) (by have := H1l.out; have := H2l.out; have := HFL.out; have := HS3.out; have := HD5.out; have := bytesOf_size (fmtL ps); simp [natL_len, dlen]; omega) HK9a.out.2.2.2 ?_; intro v10 w10 hown' hg' hat'; have HK10 := Lib.hid (KR.appendN (by simp [natL_len, dlen]) HK9a.out hown' hg'); clear hown' hg' hat')
      clear a0 a1 a2 a3 a4 a5
      obtain ⟨a0, a1, a2, a3, a4, a5⟩ := six HK10.out.1
      go_wp2_with fail
      go_ret
      exact ⟨_, rfl, own_base (obyt_own (by have := HK10.out.2.2.1; rw [bytesOf_list] at this; simpa using this)) (by omega), HK10.out.2.1⟩
    · rw [if_neg hm]
      have hmf : ((m : Int) != 0) = true := by simp; omega
      clear hm
      unfold tkC at *
      go_enter Tryd.func9, Tryd.ntmps9
      go_upto_region 1 with fail
      generalize w.alloc (.cells #[.int .i64 4, .int .u8 (c : Int), .int .u8 (m : Int), .slice P ps.length pc, .string s, .slice D dt.length dc] 25) = w1 at *
      obtain ⟨a0, a1, a2, a3, a4, a5⟩ := six HK.out.1
      go_wp2_with fail
      refine (HB.out _).mono ?_
      rintro e w2 ⟨rfl, rfl⟩
      go_wp2_with fail
      refine (HC.out _).mono ?_
      rintro e w3 ⟨v3, rfl, ho, hb3⟩
      have HK3 := Lib.hid (ko_start HK.out ho hb3)
      clear ho hb3 a0 a1 a2 a3 a4 a5 HK HB HC
      obtain ⟨a0, a1, a2, a3, a4, a5⟩ := six HK3.out.1
      go_upto_region 11 with (at_builtin; have HK3a := Lib.hid (KR.next HK3.out ((Below.refl _ _).alloc (Nat.le_refl _) (.cells #[.int .u8 (m : Int)] 5))); refine wpList_append_any _ rfl _ _ 23 rfl (w.heap.size + 1) 5 i0 _ 1 1 Tryd.underlying23 HI.out HZ0.out HZ1.out HZ2.out rfl (by decide) _ _ _ rfl (obyt_own HK3a.out.2.2.1) _ (some ⟨w3.heap.size, 0, none⟩) 1 1 _ rfl (lit_reads w3 m) (oby_one [m]) (by have := H1l.out; have := H2l.out; have := HFL.out; have := HS3.out; have := HD5.out; have := bytesOf_size (fmtL ps); unfold maxLen; simp [natL_len, dlen]; omega) (by have := H1l.out; have := H2l.out; have := HFL.out; have := HS3.out; have := HD5.out; have := bytesOf_size (fmtL ps); simp [natL_len, dlen]; omega) HK3a.out.2.2.2 ?_; intro v4 w4 hown' hg' hat'; have HK4 := Lib.hid (KR.appendN (by simp [natL_len, dlen]) HK3a.out hown' hg'); clear hown' hg' hat')
      clear a0 a1 a2 a3 a4 a5
      obtain ⟨a0, a1, a2, a3, a4, a5⟩ := six HK4.out.1
      go_wp2_with fail
      refine (HFm.out _ (HR.out.next HK4.out.2.1)).mono ?_
      rintro e w5 ⟨rfl, hb5⟩
      have HK5 := Lib.hid (KR.next HK4.out hb5)
      clear hb5 a0 a1 a2 a3 a4 a5
      have hcv1 := HCV.out w5 (bytesOf (fmtL ps))
      go_upto_region 12 with (at_builtin; have HK5a := Lib.hid (KR.next HK5.out (str_world w5 (bytesOf (fmtL ps))).1); refine wpList_append_any _ rfl _ _ 23 rfl (w.heap.size + 1) 5 i0 _ 1 1 Tryd.underlying23 HI.out HZ0.out HZ1.out HZ2.out rfl (by decide) _ _ _ rfl (obyt_own HK5a.out.2.2.1) _ (some ⟨w5.heap.size, 0, none⟩) (bytesOf (fmtL ps)).size _ _ rfl (str_reads w5 (bytesOf (fmtL ps))) (oby_one (natL (bytesOf (fmtL ps)).data.toList)) (by have := H1l.out; have := H2l.out; have := HFL.out; have := HS3.out; have := HD5.out; have := bytesOf_size (fmtL ps); unfold maxLen; simp [natL_len, dlen]; omega) (by have := H1l.out; have := H2l.out; have := HFL.out; have := HS3.out; have := HD5.out; have := bytesOf_size (fmtL ps); simp [natL_len, dlen]; omega) HK5a.out.2.2.2 ?_; intro v6 w6 hown' hg' hat'; have HK6 := Lib.hid (KR.appendN (by simp [natL_len, dlen]) HK5a.out hown' hg'); clear hown' hg' hat')
      clear hcv1
      obtain ⟨a0, a1, a2, a3, a4, a5⟩ := six HK6.out.1
      have hcv1 := HCV.out w6 s
      go_upto_region 13 with (at_builtin; have HK6a := Lib.hid (KR.next HK6.out (str_world w6 s).1); refine wpList_append_any _ rfl _ _ 23 rfl (w.heap.size + 1) 5 i0 _ 1 1 Tryd.underlying23 HI.out HZ0.out HZ1.out HZ2.out rfl (by decide) _ _ _ rfl (obyt_own HK6a.out.2.2.1) _ (some ⟨w6.heap.size, 0, none⟩) s.size _ _ rfl (str_reads w6 s) (oby_one (natL s.data.toList)) (by have := H1l.out; have := H2l.out; have := HFL.out; have := HS3.out; have := HD5.out; have := bytesOf_size (fmtL ps); unfold maxLen; simp [natL_len, dlen]; omega) (by have := H1l.out; have := H2l.out; have := HFL.out; have := HS3.out; have := HD5.out; have := bytesOf_size (fmtL ps); simp [natL_len, dlen]; omega) HK6a.out.2.2.2 ?_; intro v9 w9 hown' hg' hat'; have HK9 := Lib.hid (KR.appendN (by simp [natL_len, dlen]) HK6a.out hown' hg'); clear hown' hg' hat')
      clear hcv1 a0 a1 a2 a3 a4 a5
      obtain ⟨a0, a1, a2, a3, a4, a5⟩ := six HK9.out.1
      go_upto_region 14 with (at_builtin; have HK9a := Lib.hid (KR.next HK9.out ((Below.refl _ _).alloc (Nat.le_refl _) (.cells #[.int .u8 (c : Int)] 5))); refine wpList_append_any _ rfl _ _ 23 rfl (w.heap.size + 1) 5 i0 _ 1 1 Tryd.underlying23 HI.out HZ0.out HZ1.out HZ2.out rfl (by decide) _ _ _ rfl (obyt_own HK9a.out.2.2.1) _ (some ⟨w9.heap.size, 0, none⟩) 1 1 _ rfl (lit_reads w9 c) (oby_one [c]) (by have := H1l.out; have := H2l.out; have := HFL.out; have := HS3.out; have := HD5.out; have := bytesOf_size (fmtL ps); unfold maxLen; simp [natL_len, dlen]; omega) (by have := H1l.out; have := H2l.out; have := HFL.out; have := HS3.out; have := HD5.out; have := bytesOf_size (fmtL ps); simp [natL_len, dlen]; omega) HK9a.out.2.2.2 ?_; intro v10 w10 hown' hg' hat'; have HK10 := Lib.hid (KR.appendN (by simp [natL_len, dlen]) HK9a.out hown' hg'); clear hown' hg' hat')
      clear a0 a1 a2 a3 a4 a5
      obtain ⟨a0, a1, a2, a3, a4, a5⟩ := six HK10.out.1
      go_wp2_with fail
      go_ret
      exact ⟨_, rfl, own_base (obyt_own (by have := HK10.out.2.2.1; rw [bytesOf_list] at this; simpa using this)) (by omega), HK10.out.2.1⟩
  · skip
    have e : bytesL 5 c m ps s dt eight = leadL 80 eight ++ signsL c m ps s ++ (dt ++ leadL 92 eight) := by
      show leadL 80 eight ++ signsL c m ps s ++ (dt ++ leadL 92 eight) = _
      simp
    rw [e]
    clear e hV
    have HB := Lib.hid (fun (W : World) => (begins_any 5 (by omega) W : Calls Tryd.prog 23 #[.int .i64 5] W fun e w' => e = .returned (.int .u8 80) ∧ W = w'))
    have HC : Hid (∀ W, Calls Tryd.prog 22 #[.int .u8 80, .bool eight] W fun e w' => ∃ v, e = .returned v ∧ OByt w' W.heap.size v (leadL 80 eight) ∧ Below W.heap.size W w') := Lib.hid (fun W => HPr.out 80 (by decide) W)
    have HC2 : Hid (∀ W, Calls Tryd.prog 22 #[.int .u8 92, .bool eight] W fun e w' => ∃ v, e = .returned v ∧ OByt w' W.heap.size v (leadL 92 eight) ∧ Below W.heap.size W w') := Lib.hid (fun W => HPr.out 92 (by decide) W)
    have H1l := Lib.hid (HLl.out 80)
    have H2l := Lib.hid (HLl.out 92)
    clear HPr HLl
    unfold signsL
    generalize leadL 80 eight = l1 at *
    generalize leadL 92 eight = l92 at *
    by_cases hm : m = 0
    · rw [if_pos hm]
      have hmf : ((m : Int) != 0) = false := by simp; exact hm
      clear hm
      unfold tkC at *
      go_enter Tryd.func9, Tryd.ntmps9
      go_upto_region 1 with fail
      generalize w.alloc (.cells #[.int .i64 5, .int .u8 (c : Int), .int .u8 (m : Int), .slice P ps.length pc, .string s, .slice D dt.length dc] 25) = w1 at *
      obtain ⟨a0, a1, a2, a3, a4, a5⟩ := six HK.out.1
      go_wp2_with fail
      refine (HB.out _).mono ?_
      rintro e w2 ⟨rfl, rfl⟩
      go_wp2_with fail
      refine (HC.out _).mono ?_
      rintro e w3 ⟨v3, rfl, ho, hb3⟩
      have HK3 := Lib.hid (ko_start HK.out ho hb3)
      clear ho hb3 a0 a1 a2 a3 a4 a5 HK HB HC
      obtain ⟨a0, a1, a2, a3, a4, a5⟩ := six HK3.out.1
      go_upto_region 11 with fail
      have HK4 := HK3
      clear a0 a1 a2 a3 a4 a5
      obtain ⟨a0, a1, a2, a3, a4, a5⟩ := six HK4.out.1
      go_wp2_with fail
      refine (HFm.out _ (HR.out.next HK4.out.2.1)).mono ?_
      rintro e w5 ⟨rfl, hb5⟩
      have HK5 := Lib.hid (KR.next HK4.out hb5)
      clear hb5 a0 a1 a2 a3 a4 a5
      have hcv1 := HCV.out w5 (bytesOf (fmtL ps))
      go_upto_region 12 with (at_builtin; have HK5a := Lib.hid (KR.next HK5.out (str_world w5 (bytesOf (fmtL ps))).1); refine wpList_append_any _ rfl _ _ 23 rfl (w.heap.size + 1) 5 i0 _ 1 1 Tryd.underlying23 HI.out HZ0.out HZ1.out HZ2.out rfl (by decide) _ _ _ rfl (obyt_own HK5a.out.2.2.1) _ (some ⟨w5.heap.size, 0, none⟩) (bytesOf (fmtL ps)).size _ _ rfl (str_reads w5 (bytesOf (fmtL ps))) (oby_one (natL (bytesOf (fmtL ps)).data.toList)) (by have := H1l.out; have := H2l.out; have := HFL.out; have := HS3.out; have := HD5.out; have := bytesOf_size (fmtL ps); unfold maxLen; simp [natL_len, dlen]; omega) (by have := H1l.out; have := H2l.out; have := HFL.out; have := HS3.out; have := HD5.out; have := bytesOf_size (fmtL ps); simp [natL_len, dlen]; omega) HK5a.out.2.2.2 ?_; intro v6 w6 hown' hg' hat'; have HK6 := Lib.hid (KR.appendN (by simp [natL_len, dlen]) HK5a.out hown' hg'); clear hown' hg' hat')
      clear hcv1
      obtain ⟨a0, a1, a2, a3, a4, a5⟩ := six HK6.out.1
      have hcv1 := HCV.out w6 s
      go_upto_region 13 with (at_builtin; have HK6a := Lib.hid (KR.next HK6.out (str_world w6 s).1); refine wpList_append_any _ rfl _ _ 23 rfl (w.heap.size + 1) 5 i0 _ 1 1 Tryd.underlying23 HI.out HZ0.out HZ1.out HZ2.out rfl (by decide) _ _ _ rfl (obyt_own HK6a.out.2.2.1) _ (some ⟨w6.heap.size, 0, none⟩) s.size _ _ rfl (str_reads w6 s) (oby_one (natL s.data.toList)) (by have := H1l.out; have := H2l.out; have := HFL.out; have := HS3.out; have := HD5.out; have := bytesOf_size (fmtL ps); unfold maxLen; simp [natL_len, dlen]; omega) (by have := H1l.out; have := H2l.out; have := HFL.out; have := HS3.out; have := HD5.out; have := bytesOf_size (fmtL ps); simp [natL_len, dlen]; omega) HK6a.out.2.2.2 ?_; intro v9 w9 hown' hg' hat'; have HK9 := Lib.hid (KR.appendN (by simp [natL_len, dlen]) HK6a.out hown' hg'); clear hown' hg' hat')
      clear hcv1 a0 a1 a2 a3 a4 a5
      obtain ⟨a0, a1, a2, a3, a4, a5⟩ := six HK9.out.1
      go_upto_region 14 with (at_builtin; have HK9a := Lib.hid (KR.next HK9.out ((Below.refl _ _).alloc (Nat.le_refl _) (.cells #[.int .u8 (c : Int)] 5))); refine wpList_append_any _ rfl _ _ 23 rfl (w.heap.size + 1) 5 i0 _ 1 1 Tryd.underlying23 HI.out HZ0.out HZ1.out HZ2.out rfl (by decide) _ _ _ rfl (obyt_own HK9a.out.2.2.1) _ (some ⟨w9.heap.size, 0, none⟩) 1 1 _ rfl (lit_reads w9 c) (oby_one [c]) (by have := H1l.out; have := H2l.out; have := HFL.out; have := HS3.out; have := HD5.out; have := bytesOf_size (fmtL ps); unfold maxLen; simp [natL_len, dlen]; omega) (by have := H1l.out; have := H2l.out; have := HFL.out; have := HS3.out; have := HD5.out; have := bytesOf_size (fmtL ps); simp [natL_len, dlen]; omega) HK9a.out.2.2.2 ?_; intro v10 w10 hown' hg' hat'; have HK10 := Lib.hid (KR.appendN (by simp [natL_len, dlen]) HK9a.out hown' hg'); clear hown' hg' hat')
      clear a0 a1 a2 a3 a4 a5
      obtain ⟨a0, a1, a2, a3, a4, a5⟩ := six HK10.out.1
      go_upto_region 16 with (at_builtin; refine wpList_append_any _ rfl _ _ 23 rfl (w.heap.size + 1) 5 i0 _ 1 1 Tryd.underlying23 HI.out HZ0.out HZ1.out HZ2.out rfl (by decide) _ _ _ rfl (obyt_own HK10.out.2.2.1) _ D dt.length dc _ rfl (HD.out.next HK10.out.2.1) (oby_one dt) (by have := H1l.out; have := H2l.out; have := HFL.out; have := HS3.out; have := HD5.out; have := bytesOf_size (fmtL ps); unfold maxLen; simp [natL_len, dlen]; omega) (by have := H1l.out; have := H2l.out; have := HFL.out; have := HS3.out; have := HD5.out; have := bytesOf_size (fmtL ps); simp [natL_len, dlen]; omega) HK10.out.2.2.2 ?_; intro v' W' hown' hg' hat'; have HK6 := Lib.hid (KR.append HK10.out hown' hg'); clear hown' hg' hat')
      clear a0 a1 a2 a3 a4 a5
      go_wp2_with fail
      refine (HC2.out _).mono ?_
      rintro e w7 ⟨v7, rfl, ho, hb7⟩
      have HK7 := Lib.hid (KR.next HK6.out hb7)
      obtain ⟨A7, c7, rfl⟩ := ho.form
      have HRd7 := Lib.hid ho.reads
      clear ho hb7 HK6
      go_wp2_with (at_builtin; refine wpList_append_any _ rfl _ _ 23 rfl (w.heap.size + 1) 5 i0 _ 1 1 Tryd.underlying23 HI.out HZ0.out HZ1.out HZ2.out rfl (by decide) _ _ _ rfl (obyt_own HK7.out.2.2.1) w7.heap.size A7 l92.length c7 _ rfl HRd7.out (oby_one l92) (by have := H1l.out; have := H2l.out; have := HFL.out; have := HS3.out; have := HD5.out; have := bytesOf_size (fmtL ps); unfold maxLen; simp [natL_len, dlen]; omega) (by have := H1l.out; have := H2l.out; have := HFL.out; have := HS3.out; have := HD5.out; have := bytesOf_size (fmtL ps); simp [natL_len, dlen]; omega) HK7.out.2.2.2 ?_; intro v' W' hown' hg' hat'; have HK8 := Lib.hid (KR.append HK7.out hown' hg'); clear hown' hg' hat')
      go_ret
      exact ⟨_, rfl, own_base (obyt_own (by have := HK8.out.2.2.1; rw [bytesOf_list] at this; simpa using this)) (by omega), HK8.out.2.1⟩
    · rw [if_neg hm]
      have hmf : ((m : Int) != 0) = true := by simp; omega
      clear hm
      unfold tkC at *
      go_enter Tryd.func9, Tryd.ntmps9
      go_upto_region 1 with fail
      generalize w.alloc (.cells #[.int .i64 5, .int .u8 (c : Int), .int .u8 (m : Int), .slice P ps.length pc, .string s, .slice D dt.length dc] 25) = w1 at *
      obtain ⟨a0, a1, a2, a3, a4, a5⟩ := six HK.out.1
      go_wp2_with fail
      refine (HB.out _).mono ?_
      rintro e w2 ⟨rfl, rfl⟩
      go_wp2_with fail
      refine (HC.out _).mono ?_
      rintro e w3 ⟨v3, rfl, ho, hb3⟩
      have HK3 := Lib.hid (ko_start HK.out ho hb3)
      clear ho hb3 a0 a1 a2 a3 a4 a5 HK HB HC
      obtain ⟨a0, a1, a2, a3, a4, a5⟩ := six HK3.out.1
      go_upto_region 11 with (at_builtin; have HK3a := Lib.hid (KR.next HK3.out ((Below.refl _ _).alloc (Nat.le_refl _) (.cells #[.int .u8 (m : Int)] 5))); refine wpList_append_any _ rfl _ _ 23 rfl (w.heap.size + 1) 5 i0 _ 1 1 Tryd.underlying23 HI.out HZ0.out HZ1.out HZ2.out rfl (by decide) _ _ _ rfl (obyt_own HK3a.out.2.2.1) _ (some ⟨w3.heap.size, 0, none⟩) 1 1 _ rfl (lit_reads w3 m) (oby_one [m]) (by have := H1l.out; have := H2l.out; have := HFL.out; have := HS3.out; have := HD5.out; have := bytesOf_size (fmtL ps); unfold maxLen; simp [natL_len, dlen]; omega) (by have := H1l.out; have := H2l.out; have := HFL.out; have := HS3.out; have := HD5.out; have := bytesOf_size (fmtL ps); simp [natL_len, dlen]; omega) HK3a.out.2.2.2 ?_; intro v4 w4 hown' hg' hat'; have HK4 := Lib.hid (KR.appendN (by simp [natL_len, dlen]) HK3a.out hown' hg'); clear hown' hg' hat')
      clear a0 a1 a2 a3 a4 a5
      obtain ⟨a0, a1, a2, a3, a4, a5⟩ := six HK4.out.1
      go_wp2_with fail
      refine (HFm.out _ (HR.out.next HK4.out.2.1)).mono ?_
      rintro e w5 ⟨rfl, hb5⟩
      have HK5 := Lib.hid (KR.next HK4.out hb5)
      clear hb5 a0 a1 a2 a3 a4 a5
      have hcv1 := HCV.out w5 (bytesOf (fmtL ps))
      go_upto_region 12 with (at_builtin; have HK5a := Lib.hid (KR.next HK5.out (str_world w5 (bytesOf (fmtL ps))).1); refine wpList_append_any _ rfl _ _ 23 rfl (w.heap.size + 1) 5 i0 _ 1 1 Tryd.underlying23 HI.out HZ0.out HZ1.out HZ2.out rfl (by decide) _ _ _ rfl (obyt_own HK5a.out.2.2.1) _ (some ⟨w5.heap.size, 0, none⟩) (bytesOf (fmtL ps)).size _ _ rfl (str_reads w5 (bytesOf (fmtL ps))) (oby_one (natL (bytesOf (fmtL ps)).data.toList)) (by have := H1l.out; have := H2l.out; have := HFL.out; have := HS3.out; have := HD5.out; have := bytesOf_size (fmtL ps); unfold maxLen; simp [natL_len, dlen]; omega) (by have := H1l.out; have := H2l.out; have := HFL.out; have := HS3.out; have := HD5.out; have := bytesOf_size (fmtL ps); simp [natL_len, dlen]; omega) HK5a.out.2.2.2 ?_; intro v6 w6 hown' hg' hat'; have HK6 := Lib.hid (KR.appendN (by simp [natL_len, dlen]) HK5a.out hown' hg'); clear hown' hg' hat')
      clear hcv1
      obtain ⟨a0, a1, a2, a3, a4, a5⟩ := six HK6.out.1
      have hcv1 := HCV.out w6 s
      go_upto_region 13 with (at_builtin; have HK6a := Lib.hid (KR.next HK6.out (str_world w6 s).1); refine wpList_append_any _ rfl _ _ 23 rfl (w.heap.size + 1) 5 i0 _ 1 1 Tryd.underlying23 HI.out HZ0.out HZ1.out HZ2.out rfl (by decide) _ _ _ rfl (obyt_own HK6a.out.2.2.1) _ (some ⟨w6.heap.size, 0, none⟩) s.size _ _ rfl (str_reads w6 s) (oby_one (natL s.data.toList)) (by have := H1l.out; have := H2l.out; have := HFL.out; have := HS3.out; have := HD5.out; have := bytesOf_size (fmtL ps); unfold maxLen; simp [natL_len, dlen]; omega) (by have := H1l.out; have := H2l.out; have := HFL.out; have := HS3.out; have := HD5.out; have := bytesOf_size (fmtL ps); simp [natL_len, dlen]; omega) HK6a.out.2.2.2 ?_; intro v9 w9 hown' hg' hat'; have HK9 := Lib.hid (KR.appendN (by simp [natL_len, dlen]) HK6a.out hown' hg'); clear hown' hg' hat')
      clear hcv1 a0 a1 a2 a3 a4 a5
      obtain ⟨a0, a1, a2, a3, a4, a5⟩ := six HK9.out.1
      go_upto_region 14 with (at_builtin; have HK9a := Lib.hid (KR.next HK9.out ((Below.refl _ _).alloc (Nat.le_refl _) (.cells #[.int .u8 (c : Int)] 5))); refine wpList_append_any _ rfl _ _ 23 rfl (w.heap.size + 1) 5 i0 _ 1 1 Tryd.underlying23 HI.out HZ0.out HZ1.out HZ2.out rfl (by decide) _ _ _ rfl (obyt_own HK9a.out.2.2.1) _ (some ⟨w9.heap.size, 0, none⟩) 1 1 _ rfl (lit_reads w9 c) (oby_one [c]) (by have := H1l.out; have := H2l.out; have := HFL.out; have := HS3.out; have := HD5.out; have := bytesOf_size (fmtL ps); unfold maxLen; simp [natL_len, dlen]; omega) (by have := H1l.out; have := H2l.out; have := HFL.out; have := HS3.out; have := HD5.out; have := bytesOf_size (fmtL ps); simp [natL_len, dlen]; omega) HK9a.out.2.2.2 ?_; intro v10 w10 hown' hg' hat'; have HK10 := Lib.hid (KR.appendN (by simp [natL_len, dlen]) HK9a.out hown' hg'); clear hown' hg' hat')
      clear a0 a1 a2 a3 a4 a5
      obtain ⟨a0, a1, a2, a3, a4, a5⟩ := six HK10.out.1
      go_upto_region 16 with (at_builtin; refine wpList_append_any _ rfl _ _ 23 rfl (w.heap.size + 1) 5 i0 _ 1 1 Tryd.underlying23 HI.out HZ0.out HZ1.out HZ2.out rfl (by decide) _ _ _ rfl (obyt_own HK10.out.2.2.1) _ D dt.length dc _ rfl (HD.out.next HK10.out.2.1) (oby_one dt) (by have := H1l.out; have := H2l.out; have := HFL.out; have := HS3.out; have := HD5.out; have := bytesOf_size (fmtL ps); unfold maxLen; simp [natL_len, dlen]; omega) (by have := H1l.out; have := H2l.out; have := HFL.out; have := HS3.out; have := HD5.out; have := bytesOf_size (fmtL ps); simp [natL_len, dlen]; omega) HK10.out.2.2.2 ?_; intro v' W' hown' hg' hat'; have HK6 := Lib.hid (KR.append HK10.out hown' hg'); clear hown' hg' hat')
      clear a0 a1 a2 a3 a4 a5
      go_wp2_with fail
      refine (HC2.out _).mono ?_
      rintro e w7 ⟨v7, rfl, ho, hb7⟩
      have HK7 := Lib.hid (KR.next HK6.out hb7)
      obtain ⟨A7, c7, rfl⟩ := ho.form
      have HRd7 := Lib.hid ho.reads
      clear ho hb7 HK6
      go_wp2_with (at_builtin; refine wpList_append_any _ rfl _ _ 23 rfl (w.heap.size + 1) 5 i0 _ 1 1 Tryd.underlying23 HI.out HZ0.out HZ1.out HZ2.out rfl (by decide) _ _ _ rfl (obyt_own HK7.out.2.2.1) w7.heap.size A7 l92.length c7 _ rfl HRd7.out (oby_one l92) (by have := H1l.out; have := H2l.out; have := HFL.out; have := HS3.out; have := HD5.out; have := bytesOf_size (fmtL ps); unfold maxLen; simp [natL_len, dlen]; omega) (by have := H1l.out; have := H2l.out; have := HFL.out; have := HS3.out; have := HD5.out; have := bytesOf_size (fmtL ps); simp [natL_len, dlen]; omega) HK7.out.2.2.2 ?_; intro v' W' hown' hg' hat'; have HK8 := Lib.hid (KR.append HK7.out hown' hg'); clear hown' hg' hat')
      go_ret
      exact ⟨_, rfl, own_base (obyt_own (by have := HK8.out.2.2.1; rw [bytesOf_list] at this; simpa using this)) (by omega), HK8.out.2.1⟩
  · skip
    have e : bytesL 6 c m ps s dt eight = leadL 93 eight ++ (dt ++ leadL 92 eight) := by
      show leadL 93 eight ++ [] ++ (dt ++ leadL 92 eight) = _
      simp
    rw [e]
    clear e hV
    have HB := Lib.hid (fun (W : World) => (begins_any 6 (by omega) W : Calls Tryd.prog 23 #[.int .i64 6] W fun e w' => e = .returned (.int .u8 93) ∧ W = w'))
    have HC : Hid (∀ W, Calls Tryd.prog 22 #[.int .u8 93, .bool eight] W fun e w' => ∃ v, e = .returned v ∧ OByt w' W.heap.size v (leadL 93 eight) ∧ Below W.heap.size W w') := Lib.hid (fun W => HPr.out 93 (by decide) W)
    have HC2 : Hid (∀ W, Calls Tryd.prog 22 #[.int .u8 92, .bool eight] W fun e w' => ∃ v, e = .returned v ∧ OByt w' W.heap.size v (leadL 92 eight) ∧ Below W.heap.size W w') := Lib.hid (fun W => HPr.out 92 (by decide) W)
    have H1l := Lib.hid (HLl.out 93)
    have H2l := Lib.hid (HLl.out 92)
    clear HPr HLl
    generalize leadL 93 eight = l1 at *
    generalize leadL 92 eight = l92 at *
    unfold tkC at *
    go_enter Tryd.func9, Tryd.ntmps9
    go_upto_region 1 with fail
    generalize w.alloc (.cells #[.int .i64 6, .int .u8 (c : Int), .int .u8 (m : Int), .slice P ps.length pc, .string s, .slice D dt.length dc] 25) = w1 at *
    obtain ⟨a0, a1, a2, a3, a4, a5⟩ := six HK.out.1
    go_wp2_with fail
    refine (HB.out _).mono ?_
    rintro e w2 ⟨rfl, rfl⟩
    go_wp2_with fail
    refine (HC.out _).mono ?_
    rintro e w3 ⟨v3, rfl, ho, hb3⟩
    have HK3 := Lib.hid (ko_start HK.out ho hb3)
    clear ho hb3 a0 a1 a2 a3 a4 a5 HK HB HC
    obtain ⟨a0, a1, a2, a3, a4, a5⟩ := six HK3.out.1
    go_upto_region 16 with (at_builtin; refine wpList_append_any _ rfl _ _ 23 rfl (w.heap.size + 1) 5 i0 _ 1 1 Tryd.underlying23 HI.out HZ0.out HZ1.out HZ2.out rfl (by decide) _ _ _ rfl (obyt_own HK3.out.2.2.1) _ D dt.length dc _ rfl (HD.out.next HK3.out.2.1) (oby_one dt) (by have := H1l.out; have := H2l.out; have := HFL.out; have := HS3.out; have := HD5.out; have := bytesOf_size (fmtL ps); unfold maxLen; simp [natL_len, dlen]; omega) (by have := H1l.out; have := H2l.out; have := HFL.out; have := HS3.out; have := HD5.out; have := bytesOf_size (fmtL ps); simp [natL_len, dlen]; omega) HK3.out.2.2.2 ?_; intro v' W' hown' hg' hat'; have HK6 := Lib.hid (KR.append HK3.out hown' hg'); clear hown' hg' hat')
    clear a0 a1 a2 a3 a4 a5
    go_wp2_with fail
    refine (HC2.out _).mono ?_
    rintro e w7 ⟨v7, rfl, ho, hb7⟩
    have HK7 := Lib.hid (KR.next HK6.out hb7)
    obtain ⟨A7, c7, rfl⟩ := ho.form
    have HRd7 := Lib.hid ho.reads
    clear ho hb7 HK6
    go_wp2_with (at_builtin; refine wpList_append_any _ rfl _ _ 23 rfl (w.heap.size + 1) 5 i0 _ 1 1 Tryd.underlying23 HI.out HZ0.out HZ1.out HZ2.out rfl (by decide) _ _ _ rfl (obyt_own HK7.out.2.2.1) w7.heap.size A7 l92.length c7 _ rfl HRd7.out (oby_one l92) (by have := H1l.out; have := H2l.out; have := HFL.out; have := HS3.out; have := HD5.out; have := bytesOf_size (fmtL ps); unfold maxLen; simp [natL_len, dlen]; omega) (by have := H1l.out; have := H2l.out; have := HFL.out; have := HS3.out; have := HD5.out; have := bytesOf_size (fmtL ps); simp [natL_len, dlen]; omega) HK7.out.2.2.2 ?_; intro v' W' hown' hg' hat'; have HK8 := Lib.hid (KR.append HK7.out hown' hg'); clear hown' hg' hat')
    go_ret
    exact ⟨_, rfl, own_base (obyt_own (by have := HK8.out.2.2.1; simpa using this)) (by omega), HK8.out.2.1⟩
  · skip
    have e : bytesL 7 c m ps s dt eight = leadL 88 eight ++ (dt ++ leadL 92 eight) := by
      show leadL 88 eight ++ [] ++ (dt ++ leadL 92 eight) = _
      simp
    rw [e]
    clear e hV
    have HB := Lib.hid (fun (W : World) => (begins_any 7 (by omega) W : Calls Tryd.prog 23 #[.int .i64 7] W fun e w' => e = .returned (.int .u8 88) ∧ W = w'))
    have HC : Hid (∀ W, Calls Tryd.prog 22 #[.int .u8 88, .bool eight] W fun e w' => ∃ v, e = .returned v ∧ OByt w' W.heap.size v (leadL 88 eight) ∧ Below W.heap.size W w') := Lib.hid (fun W => HPr.out 88 (by decide) W)
    have HC2 : Hid (∀ W, Calls Tryd.prog 22 #[.int .u8 92, .bool eight] W fun e w' => ∃ v, e = .returned v ∧ OByt w' W.heap.size v (leadL 92 eight) ∧ Below W.heap.size W w') := Lib.hid (fun W => HPr.out 92 (by decide) W)
    have H1l := Lib.hid (HLl.out 88)
    have H2l := Lib.hid (HLl.out 92)
    clear HPr HLl
    generalize leadL 88 eight = l1 at *
    generalize leadL 92 eight = l92 at *
    unfold tkC at *
    go_enter Tryd.func9, Tryd.ntmps9
    go_upto_region 1 with fail
    generalize w.alloc (.cells #[.int .i64 7, .int .u8 (c : Int), .int .u8 (m : Int), .slice P ps.length pc, .string s, .slice D dt.length dc] 25) = w1 at *
    obtain ⟨a0, a1, a2, a3, a4, a5⟩ := six HK.out.1
    go_wp2_with fail
    refine (HB.out _).mono ?_
    rintro e w2 ⟨rfl, rfl⟩
    go_wp2_with fail
    refine (HC.out _).mono ?_
    rintro e w3 ⟨v3, rfl, ho, hb3⟩
    have HK3 := Lib.hid (ko_start HK.out ho hb3)
    clear ho hb3 a0 a1 a2 a3 a4 a5 HK HB HC
    obtain ⟨a0, a1, a2, a3, a4, a5⟩ := six HK3.out.1
    go_upto_region 16 with (at_builtin; refine wpList_append_any _ rfl _ _ 23 rfl (w.heap.size + 1) 5 i0 _ 1 1 Tryd.underlying23 HI.out HZ0.out HZ1.out HZ2.out rfl (by decide) _ _ _ rfl (obyt_own HK3.out.2.2.1) _ D dt.length dc _ rfl (HD.out.next HK3.out.2.1) (oby_one dt) (by have := H1l.out; have := H2l.out; have := HFL.out; have := HS3.out; have := HD5.out; have := bytesOf_size (fmtL ps); unfold maxLen; simp [natL_len, dlen]; omega) (by have := H1l.out; have := H2l.out; have := HFL.out; have := HS3.out; have := HD5.out; have := bytesOf_size (fmtL ps); simp [natL_len, dlen]; omega) HK3.out.2.2.2 ?_; intro v' W' hown' hg' hat'; have HK6 := Lib.hid (KR.append HK3.out hown' hg'); clear hown' hg' hat')
    clear a0 a1 a2 a3 a4 a5
    go_wp2_with fail
    refine (HC2.out _).mono ?_
    rintro e w7 ⟨v7, rfl, ho, hb7⟩
    have HK7 := Lib.hid (KR.next HK6.out hb7)
    obtain ⟨A7, c7, rfl⟩ := ho.form
    have HRd7 := Lib.hid ho.reads
    clear ho hb7 HK6
    go_wp2_with (at_builtin; refine wpList_append_any _ rfl _ _ 23 rfl (w.heap.size + 1) 5 i0 _ 1 1 Tryd.underlying23 HI.out HZ0.out HZ1.out HZ2.out rfl (by decide) _ _ _ rfl (obyt_own HK7.out.2.2.1) w7.heap.size A7 l92.length c7 _ rfl HRd7.out (oby_one l92) (by have := H1l.out; have := H2l.out; have := HFL.out; have := HS3.out; have := HD5.out; have := bytesOf_size (fmtL ps); unfold maxLen; simp [natL_len, dlen]; omega) (by have := H1l.out; have := H2l.out; have := HFL.out; have := HS3.out; have := HD5.out; have := bytesOf_size (fmtL ps); simp [natL_len, dlen]; omega) HK7.out.2.2.2 ?_; intro v' W' hown' hg' hat'; have HK8 := Lib.hid (KR.append HK7.out hown' hg'); clear hown' hg' hat')
    go_ret
    exact ⟨_, rfl, own_base (obyt_own (by have := HK8.out.2.2.1; simpa using this)) (by omega), HK8.out.2.1⟩
  · skip
    have e : bytesL 8 c m ps s dt eight = leadL 94 eight ++ (dt ++ leadL 92 eight) := by
      show leadL 94 eight ++ [] ++ (dt ++ leadL 92 eight) = _
      simp
    rw [e]
    clear e hV
    have HB := Lib.hid (fun (W : World) => (begins_any 8 (by omega) W : Calls Tryd.prog 23 #[.int .i64 8] W fun e w' => e = .returned (.int .u8 94) ∧ W = w'))
    have HC : Hid (∀ W, Calls Tryd.prog 22 #[.int .u8 94, .bool eight] W fun e w' => ∃ v, e = .returned v ∧ OByt w' W.heap.size v (leadL 94 eight) ∧ Below W.heap.size W w') := Lib.hid (fun W => HPr.out 94 (by decide) W)
    have HC2 : Hid (∀ W, Calls Tryd.prog 22 #[.int .u8 92, .bool eight] W fun e w' => ∃ v, e = .returned v ∧ OByt w' W.heap.size v (leadL 92 eight) ∧ Below W.heap.size W w') := Lib.hid (fun W => HPr.out 92 (by decide) W)
    have H1l := Lib.hid (HLl.out 94)
    have H2l := Lib.hid (HLl.out 92)
    clear HPr HLl
    generalize leadL 94 eight = l1 at *
    generalize leadL 92 eight = l92 at *
    unfold tkC at *
    go_enter Tryd.func9, Tryd.ntmps9
    go_upto_region 1 with fail
    generalize w.alloc (.cells #[.int .i64 8, .int .u8 (c : Int), .int .u8 (m : Int), .slice P ps.length pc, .string s, .slice D dt.length dc] 25) = w1 at *
    obtain ⟨a0, a1, a2, a3, a4, a5⟩ := six HK.out.1
    go_wp2_with fail
    refine (HB.out _).mono ?_
    rintro e w2 ⟨rfl, rfl⟩
    go_wp2_with fail
    refine (HC.out _).mono ?_
    rintro e w3 ⟨v3, rfl, ho, hb3⟩
    have HK3 := Lib.hid (ko_start HK.out ho hb3)
    clear ho hb3 a0 a1 a2 a3 a4 a5 HK HB HC
    obtain ⟨a0, a1, a2, a3, a4, a5⟩ := six HK3.out.1
    go_upto_region 16 with (at_builtin; refine wpList_append_any _ rfl _ _ 23 rfl (w.heap.size + 1) 5 i0 _ 1 1 Tryd.underlying23 HI.out HZ0.out HZ1.out HZ2.out rfl (by decide) _ _ _ rfl (obyt_own HK3.out.2.2.1) _ D dt.length dc _ rfl (HD.out.next HK3.out.2.1) (oby_one dt) (by have := H1l.out; have := H2l.out; have := HFL.out; have := HS3.out; have := HD5.out; have := bytesOf_size (fmtL ps); unfold maxLen; simp [natL_len, dlen]; omega) (by have := H1l.out; have := H2l.out; have := HFL.out; have := HS3.out; have := HD5.out; have := bytesOf_size (fmtL ps); simp [natL_len, dlen]; omega) HK3.out.2.2.2 ?_; intro v' W' hown' hg' hat'; have HK6 := Lib.hid (KR.append HK3.out hown' hg'); clear hown' hg' hat')
    clear a0 a1 a2 a3 a4 a5
    go_wp2_with fail
    refine (HC2.out _).mono ?_
    rintro e w7 ⟨v7, rfl, ho, hb7⟩
    have HK7 := Lib.hid (KR.next HK6.out hb7)
    obtain ⟨A7, c7, rfl⟩ := ho.form
    have HRd7 := Lib.hid ho.reads
    clear ho hb7 HK6
    go_wp2_with (at_builtin; refine wpList_append_any _ rfl _ _ 23 rfl (w.heap.size + 1) 5 i0 _ 1 1 Tryd.underlying23 HI.out HZ0.out HZ1.out HZ2.out rfl (by decide) _ _ _ rfl (obyt_own HK7.out.2.2.1) w7.heap.size A7 l92.length c7 _ rfl HRd7.out (oby_one l92) (by have := H1l.out; have := H2l.out; have := HFL.out; have := HS3.out; have := HD5.out; have := bytesOf_size (fmtL ps); unfold maxLen; simp [natL_len, dlen]; omega) (by have := H1l.out; have := H2l.out; have := HFL.out; have := HS3.out; have := HD5.out; have := bytesOf_size (fmtL ps); simp [natL_len, dlen]; omega) HK7.out.2.2.2 ?_; intro v' W' hown' hg' hat'; have HK8 := Lib.hid (KR.append HK7.out hown' hg'); clear hown' hg' hat')
    go_ret
    exact ⟨_, rfl, own_base (obyt_own (by have := HK8.out.2.2.1; simpa using this)) (by omega), HK8.out.2.1⟩
  · skip
    have e : bytesL 9 c m ps s dt eight = leadL 95 eight ++ (dt ++ leadL 92 eight) := by
      show leadL 95 eight ++ [] ++ (dt ++ leadL 92 eight) = _
      simp
    rw [e]
    clear e hV
    have HB := Lib.hid (fun (W : World) => (begins_any 9 (by omega) W : Calls Tryd.prog 23 #[.int .i64 9] W fun e w' => e = .returned (.int .u8 95) ∧ W = w'))
    have HC : Hid (∀ W, Calls Tryd.prog 22 #[.int .u8 95, .bool eight] W fun e w' => ∃ v, e = .returned v ∧ OByt w' W.heap.size v (leadL 95 eight) ∧ Below W.heap.size W w') := Lib.hid (fun W => HPr.out 95 (by decide) W)
    have HC2 : Hid (∀ W, Calls Tryd.prog 22 #[.int .u8 92, .bool eight] W fun e w' => ∃ v, e = .returned v ∧ OByt w' W.heap.size v (leadL 92 eight) ∧ Below W.heap.size W w') := Lib.hid (fun W => HPr.out 92 (by decide) W)
    have H1l := Lib.hid (HLl.out 95)
    have H2l := Lib.hid (HLl.out 92)
    clear HPr HLl
    generalize leadL 95 eight = l1 at *
    generalize leadL 92 eight = l92 at *
    unfold tkC at *
    go_enter Tryd.func9, Tryd.ntmps9
    go_upto_region 1 with fail
    generalize w.alloc (.cells #[.int .i64 9, .int .u8 (c : Int), .int .u8 (m : Int), .slice P ps.length pc, .string s, .slice D dt.length dc] 25) = w1 at *
    obtain ⟨a0, a1, a2, a3, a4, a5⟩ := six HK.out.1
    go_wp2_with fail
    refine (HB.out _).mono ?_
    rintro e w2 ⟨rfl, rfl⟩
    go_wp2_with fail
    refine (HC.out _).mono ?_
    rintro e w3 ⟨v3, rfl, ho, hb3⟩
    have HK3 := Lib.hid (ko_start HK.out ho hb3)
    clear ho hb3 a0 a1 a2 a3 a4 a5 HK HB HC
    obtain ⟨a0, a1, a2, a3, a4, a5⟩ := six HK3.out.1
    go_upto_region 16 with (at_builtin; refine wpList_append_any _ rfl _ _ 23 rfl (w.heap.size + 1) 5 i0 _ 1 1 Tryd.underlying23 HI.out HZ0.out HZ1.out HZ2.out rfl (by decide) _ _ _ rfl (obyt_own HK3.out.2.2.1) _ D dt.length dc _ rfl (HD.out.next HK3.out.2.1) (oby_one dt) (by have := H1l.out; have := H2l.out; have := HFL.out; have := HS3.out; have := HD5.out; have := bytesOf_size (fmtL ps); unfold maxLen; simp [natL_len, dlen]; omega) (by have := H1l.out; have := H2l.out; have := HFL.out; have := HS3.out; have := HD5.out; have := bytesOf_size (fmtL ps); simp [natL_len, dlen]; omega) HK3.out.2.2.2 ?_; intro v' W' hown' hg' hat'; have HK6 := Lib.hid (KR.append HK3.out hown' hg'); clear hown' hg' hat')
    clear a0 a1 a2 a3 a4 a5
    go_wp2_with fail
    refine (HC2.out _).mono ?_
    rintro e w7 ⟨v7, rfl, ho, hb7⟩
    have HK7 := Lib.hid (KR.next HK6.out hb7)
    obtain ⟨A7, c7, rfl⟩ := ho.form
    have HRd7 := Lib.hid ho.reads
    clear ho hb7 HK6
    go_wp2_with (at_builtin; refine wpList_append_any _ rfl _ _ 23 rfl (w.heap.size + 1) 5 i0 _ 1 1 Tryd.underlying23 HI.out HZ0.out HZ1.out HZ2.out rfl (by decide) _ _ _ rfl (obyt_own HK7.out.2.2.1) w7.heap.size A7 l92.length c7 _ rfl HRd7.out (oby_one l92) (by have := H1l.out; have := H2l.out; have := HFL.out; have := HS3.out; have := HD5.out; have := bytesOf_size (fmtL ps); unfold maxLen; simp [natL_len, dlen]; omega) (by have := H1l.out; have := H2l.out; have := HFL.out; have := HS3.out; have := HD5.out; have := bytesOf_size (fmtL ps); simp [natL_len, dlen]; omega) HK7.out.2.2.2 ?_; intro v' W' hown' hg' hat'; have HK8 := Lib.hid (KR.append HK7.out hown' hg'); clear hown' hg' hat')
    go_ret
    exact ⟨_, rfl, own_base (obyt_own (by have := HK8.out.2.2.1; simpa using this)) (by omega), HK8.out.2.1⟩
end Go.Proofs.YtmaklogelidjaaaDoor

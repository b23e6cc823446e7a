/-
  TokenFunctions holds, whatever the input: the card of the statement, with the library's three tables tied to the program's text.
-/
import Derived.Test.YteppkddapeekdaaDoorCards
import Derived.Test.YteppkddapeekdaaDoorTie
import Derived.Test.YteppkddapeekdaaDoorFrameP
import Derived.Test.YteppkddapeekdaaDoorTokR
import Derived.Test.YteppkddapeekdaaDoorFrameK
namespace Go.Proofs.YteppkddapeekdaaDoor.tokenFunctions
open Go.ChangeShapes Go.WideShapes Go.ChangeAt Go.RowKit
open Go.ChangeMaps (open_string)

/-- A token of the program's own, as a letter. -/
def TkP (c m : Nat) (ps : List Int) (s : ByteArray) (dt : List Nat) (u : Value) : Prop := ∃ P pc D dc, u = .agg (tkC 4 (c : Int) (m : Int) P ps pc s D dt dc)
def TkF (B : Nat) (c m : Nat) (ps : List Int) (s : ByteArray) (dt : List Nat) (u : Value) (W : World) : Prop := ∃ P pc D dc, u = .agg (tkC 4 (c : Int) (m : Int) P ps pc s D dt dc) ∧ OInts W B (.slice P ps.length pc) ps ∧ OByt W B (.slice D dt.length dc) dt
def cellsV : Value → Array Value
  | .agg cs => cs
  | _ => #[]
theorem own_stab2 {ks : Kinds} {wr w w' : World} {T : TypeId} {n : Nat} {v : Value} {xs : List Value} (h : T ∉ boxes ks) (hk : Kept ks wr w w') (ho : w.ownsRow wr.heap.size T 1 v n xs) : w'.ownsRow wr.heap.size T 1 v n xs := by
  obtain ⟨hl, hr⟩ := ho
  rcases hr with ⟨rfl, hn⟩ | ⟨g, cap, cur, rfl, hb, hg, r⟩
  · exact ⟨hl, .inl ⟨rfl, hn⟩⟩
  · have hlt : g < w.heap.size := Blk.lt (show Blk w g T cur from hg)
    refine ⟨hl, .inr ⟨g, cap, cur, rfl, hb, (hk.block g hlt hb (fun cs T' fr e => ?_)).trans hg, r⟩⟩
    rw [hg] at e
    injection e with e
    injection e with _ e2 _
    rw [← e2]
    exact h
theorem tk_stab (ks : Kinds) (wr : World) (c m : Nat) (ps : List Int) (s : ByteArray) (dt : List Nat) (h1 : 3 ∉ boxes ks) (h2 : 5 ∉ boxes ks) : ∀ v w w', Kept ks wr w w' → TkF wr.heap.size c m ps s dt v w → TkF wr.heap.size c m ps s dt v w' := by
  rintro v w w' hk ⟨P, pc, D, dc, e, ho, hb⟩
  exact ⟨P, pc, D, dc, e, own_stab2 h1 hk ho, own_stab2 h2 hk hb⟩
theorem tk_same {B c m : Nat} {ps : List Int} {s : ByteArray} {dt : List Nat} {P D : Option Addr} {pc dc : Nat} {W : World} (h : TkF B c m ps s dt (.agg (tkC 4 (c : Int) (m : Int) P ps pc s D dt dc)) W) : OInts W B (.slice P ps.length pc) ps ∧ OByt W B (.slice D dt.length dc) dt := by
  obtain ⟨P', pc', D', dc', e, ho, hb⟩ := h
  unfold tkC at e
  simp only [Value.agg.injEq, Array.mk.injEq, List.cons.injEq, Value.slice.injEq, true_and, and_true] at e
  obtain ⟨⟨rfl, rfl⟩, rfl, rfl⟩ := e
  exact ⟨ho, hb⟩
theorem own_letter {B c m : Nat} {P : Option Addr} {ps : List Int} {pc : Nat} {s : ByteArray} {D : Option Addr} {dt : List Nat} {dc : Nat} (hp : ps.length ≤ 17592186044416) (hd : dt.length ≤ 140737488355328) {w : World} (hB : B ≤ w.heap.size) (hr : RInts w P ps) (hb : RByt w D dt) :
    Calls Tryd.prog 8 #[.agg (tkC 4 (c : Int) (m : Int) P ps pc s D dt dc)] w fun e w' => ∃ u, e = .returned u ∧ TkP c m ps s dt u ∧ TkF B c m ps s dt u w' ∧ Below w.heap.size w w' := by
  refine (lawOwn_any 4 c m P ps pc s D dt dc hp hd w hr hb).mono ?_
  rintro e w' ⟨⟨P', pc', D', dc', rfl, _, _, ho, hb'⟩, hbl⟩
  exact ⟨_, rfl, ⟨P', pc', D', dc', rfl⟩, ⟨P', pc', D', dc', rfl, own_base ho hB, own_base hb' hB⟩, hbl⟩
set_option maxRecDepth 100000 in
set_option maxHeartbeats 16000000 in
theorem walk (k : Int) (c m : Nat) (P : Option Addr) (ps : List Int) (pc : Nat) (s : ByteArray) (D : Option Addr) (dt : List Nat) (dc : Nat) (hp : ps.length ≤ 17592186043904) (hs : s.size ≤ maxLen) (hd : dt.length ≤ 140737488351232)
    (k2 : Int) (c2 m2 : Nat) (P2 : Option Addr) (ps2 : List Int) (pc2 : Nat) (s2 : ByteArray) (D2 : Option Addr) (dt2 : List Nat) (dc2 : Nat) (hp2 : ps2.length ≤ 17592186043904) (hs2 : s2.size ≤ maxLen) (hd2 : dt2.length ≤ 140737488351232)
    (w : World) (ht : Ten w) (hrb : RInts w P ps ∧ RByt w D dt) (hrb2 : RInts w P2 ps2 ∧ RByt w D2 dt2) :
    Calls Tryd.prog 6 #[.agg (tkC k (c : Int) (m : Int) P ps pc s D dt dc), .agg (tkC k2 (c2 : Int) (m2 : Int) P2 ps2 pc2 s2 D2 dt2 dc2)] w fun e w' => e = .returned (.bool true) ∧ Below w.heap.size w w' := by
  have HT := Lib.hid ht; have HR := Lib.hid hrb; have HR2 := Lib.hid hrb2
  have HAw := Lib.hid (fun W t => tokAwake_any W t)
  have HK0 := Lib.hid (KW.start w 25 (tkC k (c : Int) (m : Int) P ps pc s D dt dc) (tkC k2 (c2 : Int) (m2 : Int) P2 ps2 pc2 s2 D2 dt2 dc2))
  have HC1 := Lib.hid (fun W h1 h2 => refCheck_any k c m P ps pc s D dt dc hs (by unfold maxLen; omega) (by unfold maxLen; omega) W h1 h2)
  have HC2 := Lib.hid (fun W h1 h2 => refCheck_any k2 c2 m2 P2 ps2 pc2 s2 D2 dt2 dc2 hs2 (by unfold maxLen; omega) (by unfold maxLen; omega) W h1 h2)
  rw [chk_same] at HC1 HC2
  clear ht hrb hrb2

  by_cases hk : k = 4
  · subst hk
    by_cases hk2 : k2 = 4
    · subst hk2
      unfold tkC at HC1 HC2
      have HV := Lib.hid (fun h1 h2 => fn_same (c := c) (m := m) (c2 := c2) (m2 := m2) (ps := ps) (ps2 := ps2) (s := s) (s2 := s2) (dt := dt) (dt2 := dt2) h1 h2)
      have HV1 := Lib.hid (fun h => check_zero (k := 4) (c := c) (m := m) (ps := ps) (s := s) (dt := dt) h); have HV2 := Lib.hid (fun h => check_zero (k := 4) (c := c2) (m := m2) (ps := ps2) (s := s2) (dt := dt2) h)
      generalize hq1 : checkP 4 c m ps s dt = q1 at *
      generalize hq2 : checkP 4 c2 m2 ps2 s2 dt2 = q2 at *
      clear hq1 hq2
      unfold tkC at HK0 ⊢
      go_enter Tryd.func6, Tryd.ntmps6
      go_upto_region 1 with fail
      generalize (w.alloc (.cells #[.int .i64 4, .int .u8 (c : Int), .int .u8 (m : Int), .slice P ps.length pc, .string s, .slice D dt.length dc] 25)).alloc (.cells #[.int .i64 4, .int .u8 (c2 : Int), .int .u8 (m2 : Int), .slice P2 ps2.length pc2, .string s2, .slice D2 dt2.length dc2] 25) = w1 at *
      go_wp2_with fail
      refine (HAw.out _ (HT.out.next HK0.out.2.2)).mono ?_
      rintro e w2 ⟨rfl, hb2⟩
      have HK2 := Lib.hid (HK0.out.next hb2)
      clear hb2 HK0 HAw
      obtain ⟨a0, a1, a2, a3, a4, a5⟩ := six HK2.out.1
      obtain ⟨b0, b1, b2, b3, b4, b5⟩ := six HK2.out.2.1
      go_wp2_with fail
      refine (HC1.out _ (HR.out.1.next HK2.out.2.2) (HR.out.2.next HK2.out.2.2)).mono ?_
      rintro e w3 ⟨rfl, hb3⟩
      have HK3 := Lib.hid (HK2.out.next hb3)
      clear hb3 HK2 a0 a1 a2 a3 a4 a5 b0 b1 b2 b3 b4 b5 HC1
      obtain ⟨a0, a1, a2, a3, a4, a5⟩ := six HK3.out.1
      obtain ⟨b0, b1, b2, b3, b4, b5⟩ := six HK3.out.2.1
      by_cases z1 : q1 = 0
      · subst z1
        go_wp2_with fail
        refine (HC2.out _ (HR2.out.1.next HK3.out.2.2) (HR2.out.2.next HK3.out.2.2)).mono ?_
        rintro e w4 ⟨rfl, hb4⟩
        have HK4 := Lib.hid (HK3.out.next hb4)
        clear hb4 HK3 a0 a1 a2 a3 a4 a5 b0 b1 b2 b3 b4 b5 HC2
        by_cases z2 : q2 = 0
        · subst z2
          obtain ⟨_, _, v3, v4, v5, _, _, _, _⟩ := HV1.out (by simp)
          obtain ⟨_, _, u3, u4, u5, _, _, _, _⟩ := HV2.out (by simp)
          have HV3 := Lib.hid (HV.out (by simp) (by simp))
          have HS1 := Lib.hid (id_size c m s v3)
          have HI1 : Hid (∀ P pc D dc W, Ten W → Calls Tryd.prog 15 #[.agg (tkC 4 (c : Int) (m : Int) P ps pc s D dt dc)] W fun e w' => e = .returned (.string (idP 4 c m s)) ∧ Below W.heap.size W w') := Lib.hid (fun P pc D dc W t => id_any 4 c m P ps pc s D dt dc (by omega) W t)
          have HI2 : Hid (∀ P pc D dc W, Ten W → Calls Tryd.prog 15 #[.agg (tkC 4 (c2 : Int) (m2 : Int) P ps2 pc s2 D dt2 dc)] W fun e w' => e = .returned (.string (idP 4 c2 m2 s2)) ∧ Below W.heap.size W w') := Lib.hid (fun P pc D dc W t => id_any 4 c2 m2 P ps2 pc s2 D dt2 dc (by omega) W t)
          have HSI := Lib.hid (fun W h1 h2 => sameInts_any P P2 pc pc2 ps ps2 (by unfold maxLen; omega) (by unfold maxLen; omega) W h1 h2)
          have HSm : Hid (∀ Px px Dx dx Py py Dy dy W, RInts W Px ps → RInts W Py ps2 → RByt W Dx dt → RByt W Dy dt2 → Calls Tryd.prog 17 #[.agg (tkC 4 (c : Int) (m : Int) Px ps px s Dx dt dx), .agg (tkC 4 (c2 : Int) (m2 : Int) Py ps2 py s2 Dy dt2 dy)] W fun e w' => e = .returned (.bool (((idP 4 c m s).toList == (idP 4 c2 m2 s2).toList) && (ps == ps2))) ∧ Below W.heap.size W w') := Lib.hid (fun Px px Dx dx Py py Dy dy W r1 r2 r3 r4 => by
            have := same_any 4 c m Px ps px s Dx dt dx 4 c2 m2 Py ps2 py s2 Dy dt2 dy (by unfold maxLen; omega) (by unfold maxLen; omega) W r1 r2 r3 r4
            rw [HV3.out] at this
            exact this)
          have HO1 := Lib.hid (fun B W hB h1 h2 => own_letter (B := B) (c := c) (m := m) (P := P) (ps := ps) (pc := pc) (s := s) (D := D) (dt := dt) (dc := dc) (by omega) (by omega) (w := W) hB h1 h2)
          have HO2 := Lib.hid (fun B W hB h1 h2 => own_letter (B := B) (c := c2) (m := m2) (P := P2) (ps := ps2) (pc := pc2) (s := s2) (D := D2) (dt := dt2) (dc := dc2) (by omega) (by omega) (w := W) hB h1 h2)
          clear HV HV1 HV2 HV3 v3 v4 v5 u3 u4 u5
          generalize idP 4 c m s = d1 at *
          generalize idP 4 c2 m2 s2 = d2 at *
          obtain ⟨a0, a1, a2, a3, a4, a5⟩ := six HK4.out.1
          obtain ⟨b0, b1, b2, b3, b4, b5⟩ := six HK4.out.2.1
          go_upto_region 5 with fail
          clear a0 a1 a2 a3 a4 a5 b0 b1 b2 b3 b4 b5
          refine wp_region_mix_lit (by kernel_rfl) [(1, .letter (TkP c m ps s dt) (TkF w4.heap.size c m ps s dt)), (3, .letter (TkP c2 m2 ps2 s2 dt2) (TkF w4.heap.size c2 m2 ps2 s2 dt2)), (4, .alloc 6 27 #[.int .i64 0, .int .u8 0, .int .u8 0, .slice none 0 0, .string ⟨#[]⟩, .slice none 0 0] (fun β => cellsV (β 1))), (5, .alloc 7 27 #[.int .i64 0, .int .u8 0, .int .u8 0, .slice none 0 0, .string ⟨#[]⟩, .slice none 0 0] (fun β => cellsV (β 3))), (6, .init 4), (7, .init 5)] (by kernel_rfl) (by kernel_rfl) (by kernel_rfl) (by rfl) (by simp [apartK] <;> omega) (by simp [startK]) (by simp only [List.forall_mem_cons, stabK]; exact ⟨tk_stab _ _ _ _ _ _ _ (by simp [boxes, Kind.boxed]) (by simp [boxes, Kind.boxed]), tk_stab _ _ _ _ _ _ _ (by simp [boxes, Kind.boxed]) (by simp [boxes, Kind.boxed]), trivial, trivial, trivial, trivial, by simp⟩) (⟨fun i => if i = 1 then .agg (tkC 4 (c : Int) (m : Int) none ps 0 s none dt 0) else if i = 3 then .agg (tkC 4 (c2 : Int) (m2 : Int) none ps2 0 s2 none dt2 0) else .pointer (some ⟨w4.heap.size, 0, none⟩), by simp only [List.forall_mem_cons, okK]; exact ⟨⟨_, _, _, _, rfl⟩, ⟨_, _, _, _, rfl⟩, ⟨_, rfl, Nat.le_refl _⟩, ⟨_, rfl, Nat.le_refl _⟩, trivial, trivial, by simp⟩⟩) (fun β hβ => ?_)
          obtain ⟨Px, px, Dx, dx, e1⟩ := (hβ 1 : TkP c m ps s dt (β 1))
          obtain ⟨Py, py, Dy, dy, e3⟩ := (hβ 3 : TkP c2 m2 ps2 s2 dt2 (β 3))
          repeat (
            refine lex_val (v := ?_) rfl rfl (fun w' hf => ?_) ?_
            rotate_left
            · obtain ⟨a0, a1, a2, a3, a4, a5⟩ := six (HK4.out.1.next hf.only.below0); obtain ⟨b0, b1, b2, b3, b4, b5⟩ := six (HK4.out.2.1.next hf.only.below0); go_simp
              try rfl
            try simp only [Act.put, List.setIfInBounds_toArray, List.set_cons_zero, List.set_cons_succ])
          refine lex_letter (f := 8) (args := ?_) rfl rfl (fun w' hf => ?_) (fun w' hf => ?_) ?_
          rotate_left
          · obtain ⟨a0, a1, a2, a3, a4, a5⟩ := six (HK4.out.1.next hf.only.below0); obtain ⟨b0, b1, b2, b3, b4, b5⟩ := six (HK4.out.2.1.next hf.only.below0); go_simp
            try rfl
          · obtain ⟨a0, a1, a2, a3, a4, a5⟩ := six (HK4.out.1.next hf.only.below0); obtain ⟨b0, b1, b2, b3, b4, b5⟩ := six (HK4.out.2.1.next hf.only.below0); exact HO1.out _ w' hf.only.size (HR.out.1.next (HK4.out.2.2.trans (hf.only.below0.mono HK4.out.2.2.size))) (HR.out.2.next (HK4.out.2.2.trans (hf.only.below0.mono HK4.out.2.2.size)))
          try simp only [Act.put, List.setIfInBounds_toArray, List.set_cons_zero, List.set_cons_succ]
          repeat (
            refine lex_val (v := ?_) rfl rfl (fun w' hf => ?_) ?_
            rotate_left
            · obtain ⟨a0, a1, a2, a3, a4, a5⟩ := six (HK4.out.1.next hf.only.below0); obtain ⟨b0, b1, b2, b3, b4, b5⟩ := six (HK4.out.2.1.next hf.only.below0); go_simp
              try rfl
            try simp only [Act.put, List.setIfInBounds_toArray, List.set_cons_zero, List.set_cons_succ])
          refine lex_letter (f := 8) (args := ?_) rfl rfl (fun w' hf => ?_) (fun w' hf => ?_) ?_
          rotate_left
          · obtain ⟨a0, a1, a2, a3, a4, a5⟩ := six (HK4.out.1.next hf.only.below0); obtain ⟨b0, b1, b2, b3, b4, b5⟩ := six (HK4.out.2.1.next hf.only.below0); go_simp
            try rfl
          · obtain ⟨a0, a1, a2, a3, a4, a5⟩ := six (HK4.out.1.next hf.only.below0); obtain ⟨b0, b1, b2, b3, b4, b5⟩ := six (HK4.out.2.1.next hf.only.below0); exact HO2.out _ w' hf.only.size (HR2.out.1.next (HK4.out.2.2.trans (hf.only.below0.mono HK4.out.2.2.size))) (HR2.out.2.next (HK4.out.2.2.trans (hf.only.below0.mono HK4.out.2.2.size)))
          try simp only [Act.put, List.setIfInBounds_toArray, List.set_cons_zero, List.set_cons_succ]
          refine lex_alloc rfl rfl (fun w' => ?_) ?_
          · go_simp
          try simp only [Act.put, List.setIfInBounds_toArray, List.set_cons_zero, List.set_cons_succ]
          refine lex_alloc rfl rfl (fun w' => ?_) ?_
          · go_simp
          try simp only [Act.put, List.setIfInBounds_toArray, List.set_cons_zero, List.set_cons_succ]
          refine lex_init rfl rfl rfl (fun bl w' hb hf hB => ⟨_, ?_, (repl6 hB (.int .i64 4) (.int .u8 (c : Int)) (.int .u8 (m : Int)) (.slice Px ps.length px) (.string s) (.slice Dx dt.length dx)).as (by show _ = cellsV (β 1); rw [e1]; rfl)⟩) ?_
          · obtain ⟨z0, z1, z2, z3, z4, z5⟩ := six hB
            obtain ⟨f0, f1, f2, f3, f4, f5⟩ := six_fr hB
            unfold put6
            unfold tkC at e1
            go_simp
          try simp only [Act.put]
          refine lex_init rfl rfl rfl (fun bl w' hb hf hB => ⟨_, ?_, (repl6 hB (.int .i64 4) (.int .u8 (c2 : Int)) (.int .u8 (m2 : Int)) (.slice Py ps2.length py) (.string s2) (.slice Dy dt2.length dy)).as (by show _ = cellsV (β 3); rw [e3]; rfl)⟩) ?_
          · obtain ⟨z0, z1, z2, z3, z4, z5⟩ := six hB
            obtain ⟨f0, f1, f2, f3, f4, f5⟩ := six_fr hB
            unfold put6
            unfold tkC at e3
            go_simp
          try simp only [Act.put]
          refine lex_nil fun w5 he => ?_
          obtain ⟨g1, hg1, hge1, hk1⟩ := he.facts 4
          obtain ⟨g2, hg2, hge2, hk2⟩ := he.facts 5
          replace hk1 : Blk w5 g1 27 (cellsV (β 1)) := hk1
          replace hk2 : Blk w5 g2 27 (cellsV (β 3)) := hk2
          have hf1 : TkF w4.heap.size c m ps s dt (β 1) w5 := (he.facts 1).2
          have hf3 : TkF w4.heap.size c2 m2 ps2 s2 dt2 (β 3) w5 := (he.facts 3).2
          rw [e1] at hk1 hf1
          rw [e3] at hk2 hf3
          have HF1 := Lib.hid (tk_same hf1); have HF3 := Lib.hid (tk_same hf3)
          have HX1 := Lib.hid (show Blk w5 g1 27 #[.int .i64 4, .int .u8 (c : Int), .int .u8 (m : Int), .slice Px ps.length px, .string s, .slice Dx dt.length dx] from hk1)
          have HX2 := Lib.hid (show Blk w5 g2 27 #[.int .i64 4, .int .u8 (c2 : Int), .int .u8 (m2 : Int), .slice Py ps2.length py, .string s2, .slice Dy dt2.length dy] from hk2)
          have HK5 := Lib.hid (HK4.out.next he.only.below0)
          rw [hg1, hg2]
          clear he hk1 hk2 hf1 hf3 hg1 hg2 hge1 hge2 HO1 HO2 HK4 e1 e3 hβ
          go_upto_region 6 with fail
          have L1 : decide ((1 : Int) ≤ (d1.size : Int)) = true := by have := HS1.out; simp; omega
          have L2 : decide ((d1.size : Int) ≤ 5) = true := by have := HS1.out; simp; omega
          generalize hqs : (ps == ps2) = qs at *
          clear hqs
          rcases hid : (d1.toList == d2.toList) with _ | _
          · rw [hid, Bool.false_and] at HSm
            refine wp_region_mix_lit (by kernel_rfl) [(1, .call (.string d1)), (3, .call (.string d2))] (by kernel_rfl) (by kernel_rfl) (by kernel_rfl) (by rfl) (by simp [apartK] <;> omega) (by simp [startK]) (by simp [stabK]) (⟨fun _ => undef, by simp [okK]⟩) (fun β hβ => ?_)
            repeat (
              refine lex_val (v := ?_) rfl rfl (fun w' hf => ?_) ?_
              rotate_left
              · obtain ⟨a0, a1, a2, a3, a4, a5⟩ := six (HK5.out.1.next hf.only.below0); obtain ⟨b0, b1, b2, b3, b4, b5⟩ := six (HK5.out.2.1.next hf.only.below0); obtain ⟨x0, x1, x2, x3, x4, x5⟩ := six (HX1.out.next hf.only.below0); obtain ⟨y0, y1, y2, y3, y4, y5⟩ := six (HX2.out.next hf.only.below0); go_simp
                try rfl
              try simp only [Act.put, List.setIfInBounds_toArray, List.set_cons_zero, List.set_cons_succ])
            refine lex_call (f := 15) (args := ?_) rfl rfl (fun w' hf => ?_) (fun w' hf => ?_) ?_
            rotate_left
            · obtain ⟨a0, a1, a2, a3, a4, a5⟩ := six (HK5.out.1.next hf.only.below0); obtain ⟨b0, b1, b2, b3, b4, b5⟩ := six (HK5.out.2.1.next hf.only.below0); obtain ⟨x0, x1, x2, x3, x4, x5⟩ := six (HX1.out.next hf.only.below0); obtain ⟨y0, y1, y2, y3, y4, y5⟩ := six (HX2.out.next hf.only.below0); go_simp
              try rfl
            · obtain ⟨a0, a1, a2, a3, a4, a5⟩ := six (HK5.out.1.next hf.only.below0); obtain ⟨b0, b1, b2, b3, b4, b5⟩ := six (HK5.out.2.1.next hf.only.below0); obtain ⟨x0, x1, x2, x3, x4, x5⟩ := six (HX1.out.next hf.only.below0); obtain ⟨y0, y1, y2, y3, y4, y5⟩ := six (HX2.out.next hf.only.below0); exact HI1.out Px px Dx dx w' (HT.out.next (HK5.out.2.2.trans (hf.only.below0.mono HK5.out.2.2.size)))
            try simp only [Act.put, List.setIfInBounds_toArray, List.set_cons_zero, List.set_cons_succ]
            repeat (
              refine lex_val (v := ?_) rfl rfl (fun w' hf => ?_) ?_
              rotate_left
              · obtain ⟨a0, a1, a2, a3, a4, a5⟩ := six (HK5.out.1.next hf.only.below0); obtain ⟨b0, b1, b2, b3, b4, b5⟩ := six (HK5.out.2.1.next hf.only.below0); obtain ⟨x0, x1, x2, x3, x4, x5⟩ := six (HX1.out.next hf.only.below0); obtain ⟨y0, y1, y2, y3, y4, y5⟩ := six (HX2.out.next hf.only.below0); go_simp
                try rfl
              try simp only [Act.put, List.setIfInBounds_toArray, List.set_cons_zero, List.set_cons_succ])
            refine lex_call (f := 15) (args := ?_) rfl rfl (fun w' hf => ?_) (fun w' hf => ?_) ?_
            rotate_left
            · obtain ⟨a0, a1, a2, a3, a4, a5⟩ := six (HK5.out.1.next hf.only.below0); obtain ⟨b0, b1, b2, b3, b4, b5⟩ := six (HK5.out.2.1.next hf.only.below0); obtain ⟨x0, x1, x2, x3, x4, x5⟩ := six (HX1.out.next hf.only.below0); obtain ⟨y0, y1, y2, y3, y4, y5⟩ := six (HX2.out.next hf.only.below0); go_simp
              try rfl
            · obtain ⟨a0, a1, a2, a3, a4, a5⟩ := six (HK5.out.1.next hf.only.below0); obtain ⟨b0, b1, b2, b3, b4, b5⟩ := six (HK5.out.2.1.next hf.only.below0); obtain ⟨x0, x1, x2, x3, x4, x5⟩ := six (HX1.out.next hf.only.below0); obtain ⟨y0, y1, y2, y3, y4, y5⟩ := six (HX2.out.next hf.only.below0); exact HI2.out Py py Dy dy w' (HT.out.next (HK5.out.2.2.trans (hf.only.below0.mono HK5.out.2.2.size)))
            try simp only [Act.put, List.setIfInBounds_toArray, List.set_cons_zero, List.set_cons_succ]
            repeat (
              refine lex_val (v := ?_) rfl rfl (fun w' hf => ?_) ?_
              rotate_left
              · obtain ⟨a0, a1, a2, a3, a4, a5⟩ := six (HK5.out.1.next hf.only.below0); obtain ⟨b0, b1, b2, b3, b4, b5⟩ := six (HK5.out.2.1.next hf.only.below0); obtain ⟨x0, x1, x2, x3, x4, x5⟩ := six (HX1.out.next hf.only.below0); obtain ⟨y0, y1, y2, y3, y4, y5⟩ := six (HX2.out.next hf.only.below0); go_simp
                try rfl
              try simp only [Act.put, List.setIfInBounds_toArray, List.set_cons_zero, List.set_cons_succ])
            repeat (
              refine lex_skip rfl rfl ?_
              try simp only [Act.put, List.setIfInBounds_toArray, List.set_cons_zero, List.set_cons_succ])
            repeat (
              refine lex_val (v := ?_) rfl rfl (fun w' hf => ?_) ?_
              rotate_left
              · obtain ⟨a0, a1, a2, a3, a4, a5⟩ := six (HK5.out.1.next hf.only.below0); obtain ⟨b0, b1, b2, b3, b4, b5⟩ := six (HK5.out.2.1.next hf.only.below0); obtain ⟨x0, x1, x2, x3, x4, x5⟩ := six (HX1.out.next hf.only.below0); obtain ⟨y0, y1, y2, y3, y4, y5⟩ := six (HX2.out.next hf.only.below0); go_simp
                try rfl
              try simp only [Act.put, List.setIfInBounds_toArray, List.set_cons_zero, List.set_cons_succ])
            refine lex_nil fun w6 he => ?_
            have HK6 := Lib.hid (HK5.out.next he.only.below0)
            have HX61 := Lib.hid (HX1.out.next he.only.below0); have HX62 := Lib.hid (HX2.out.next he.only.below0)
            have HB6 := Lib.hid he.only.below0
            clear he HK5 HX1 HX2
            obtain ⟨x0, x1, x2, x3, x4, x5⟩ := six HX61.out
            obtain ⟨y0, y1, y2, y3, y4, y5⟩ := six HX62.out
            go_wp2_with fail
            refine (HSm.out Px px Dx dx Py py Dy dy _ ((OInts.reads HF1.out.1).next HB6.out) ((OInts.reads HF3.out.1).next HB6.out) (OByt.reads (OByt.next HF1.out.2 HB6.out)) (OByt.reads (OByt.next HF3.out.2 HB6.out))).mono ?_
            rintro e w7 ⟨rfl, hb7⟩
            have HK7 := Lib.hid (HK6.out.next hb7)
            have HX71 := Lib.hid (HX61.out.next hb7)
            clear hb7 x0 x1 x2 x3 x4 x5 y0 y1 y2 y3 y4 y5 HK6 HX61 HX62 HB6 HF1 HF3 HSm
            obtain ⟨x0, x1, x2, x3, x4, x5⟩ := six HX71.out
            go_wp2_with fail
            refine (HI1.out Px px Dx dx _ (HT.out.next HK7.out.2.2)).mono ?_
            rintro e w8 ⟨rfl, hb8⟩
            have HK8 := Lib.hid (HK7.out.next hb8)
            have HX81 := Lib.hid (HX71.out.next hb8)
            clear hb8 x0 x1 x2 x3 x4 x5 HK7 HX71
            obtain ⟨x0, x1, x2, x3, x4, x5⟩ := six HX81.out
            go_wp2_with fail
            refine (HI1.out Px px Dx dx _ (HT.out.next HK8.out.2.2)).mono ?_
            rintro e w9 ⟨rfl, hb9⟩
            have HK9 := Lib.hid (HK8.out.next hb9)
            clear hb9 x0 x1 x2 x3 x4 x5 HK8 HX81
            go_wp2_with fail
            go_ret
            exact ⟨rfl, HK9.out.2.2⟩
          · rw [hid, Bool.true_and] at HSm
            refine wp_region_mix_lit (by kernel_rfl) [(1, .call (.string d1)), (3, .call (.string d2)), (10, .call (.bool qs))] (by kernel_rfl) (by kernel_rfl) (by kernel_rfl) (by rfl) (by simp [apartK] <;> omega) (by simp [startK]) (by simp [stabK]) (⟨fun _ => undef, by simp [okK]⟩) (fun β hβ => ?_)
            repeat (
              refine lex_val (v := ?_) rfl rfl (fun w' hf => ?_) ?_
              rotate_left
              · obtain ⟨a0, a1, a2, a3, a4, a5⟩ := six (HK5.out.1.next hf.only.below0); obtain ⟨b0, b1, b2, b3, b4, b5⟩ := six (HK5.out.2.1.next hf.only.below0); obtain ⟨x0, x1, x2, x3, x4, x5⟩ := six (HX1.out.next hf.only.below0); obtain ⟨y0, y1, y2, y3, y4, y5⟩ := six (HX2.out.next hf.only.below0); go_simp
                try rfl
              try simp only [Act.put, List.setIfInBounds_toArray, List.set_cons_zero, List.set_cons_succ])
            refine lex_call (f := 15) (args := ?_) rfl rfl (fun w' hf => ?_) (fun w' hf => ?_) ?_
            rotate_left
            · obtain ⟨a0, a1, a2, a3, a4, a5⟩ := six (HK5.out.1.next hf.only.below0); obtain ⟨b0, b1, b2, b3, b4, b5⟩ := six (HK5.out.2.1.next hf.only.below0); obtain ⟨x0, x1, x2, x3, x4, x5⟩ := six (HX1.out.next hf.only.below0); obtain ⟨y0, y1, y2, y3, y4, y5⟩ := six (HX2.out.next hf.only.below0); go_simp
              try rfl
            · obtain ⟨a0, a1, a2, a3, a4, a5⟩ := six (HK5.out.1.next hf.only.below0); obtain ⟨b0, b1, b2, b3, b4, b5⟩ := six (HK5.out.2.1.next hf.only.below0); obtain ⟨x0, x1, x2, x3, x4, x5⟩ := six (HX1.out.next hf.only.below0); obtain ⟨y0, y1, y2, y3, y4, y5⟩ := six (HX2.out.next hf.only.below0); exact HI1.out Px px Dx dx w' (HT.out.next (HK5.out.2.2.trans (hf.only.below0.mono HK5.out.2.2.size)))
            try simp only [Act.put, List.setIfInBounds_toArray, List.set_cons_zero, List.set_cons_succ]
            repeat (
              refine lex_val (v := ?_) rfl rfl (fun w' hf => ?_) ?_
              rotate_left
              · obtain ⟨a0, a1, a2, a3, a4, a5⟩ := six (HK5.out.1.next hf.only.below0); obtain ⟨b0, b1, b2, b3, b4, b5⟩ := six (HK5.out.2.1.next hf.only.below0); obtain ⟨x0, x1, x2, x3, x4, x5⟩ := six (HX1.out.next hf.only.below0); obtain ⟨y0, y1, y2, y3, y4, y5⟩ := six (HX2.out.next hf.only.below0); go_simp
                try rfl
              try simp only [Act.put, List.setIfInBounds_toArray, List.set_cons_zero, List.set_cons_succ])
            refine lex_call (f := 15) (args := ?_) rfl rfl (fun w' hf => ?_) (fun w' hf => ?_) ?_
            rotate_left
            · obtain ⟨a0, a1, a2, a3, a4, a5⟩ := six (HK5.out.1.next hf.only.below0); obtain ⟨b0, b1, b2, b3, b4, b5⟩ := six (HK5.out.2.1.next hf.only.below0); obtain ⟨x0, x1, x2, x3, x4, x5⟩ := six (HX1.out.next hf.only.below0); obtain ⟨y0, y1, y2, y3, y4, y5⟩ := six (HX2.out.next hf.only.below0); go_simp
              try rfl
            · obtain ⟨a0, a1, a2, a3, a4, a5⟩ := six (HK5.out.1.next hf.only.below0); obtain ⟨b0, b1, b2, b3, b4, b5⟩ := six (HK5.out.2.1.next hf.only.below0); obtain ⟨x0, x1, x2, x3, x4, x5⟩ := six (HX1.out.next hf.only.below0); obtain ⟨y0, y1, y2, y3, y4, y5⟩ := six (HX2.out.next hf.only.below0); exact HI2.out Py py Dy dy w' (HT.out.next (HK5.out.2.2.trans (hf.only.below0.mono HK5.out.2.2.size)))
            try simp only [Act.put, List.setIfInBounds_toArray, List.set_cons_zero, List.set_cons_succ]
            repeat (
              refine lex_val (v := ?_) rfl rfl (fun w' hf => ?_) ?_
              rotate_left
              · obtain ⟨a0, a1, a2, a3, a4, a5⟩ := six (HK5.out.1.next hf.only.below0); obtain ⟨b0, b1, b2, b3, b4, b5⟩ := six (HK5.out.2.1.next hf.only.below0); obtain ⟨x0, x1, x2, x3, x4, x5⟩ := six (HX1.out.next hf.only.below0); obtain ⟨y0, y1, y2, y3, y4, y5⟩ := six (HX2.out.next hf.only.below0); go_simp
                try rfl
              try simp only [Act.put, List.setIfInBounds_toArray, List.set_cons_zero, List.set_cons_succ])
            refine lex_call (f := 19) (args := ?_) rfl rfl (fun w' hf => ?_) (fun w' hf => ?_) ?_
            rotate_left
            · obtain ⟨a0, a1, a2, a3, a4, a5⟩ := six (HK5.out.1.next hf.only.below0); obtain ⟨b0, b1, b2, b3, b4, b5⟩ := six (HK5.out.2.1.next hf.only.below0); obtain ⟨x0, x1, x2, x3, x4, x5⟩ := six (HX1.out.next hf.only.below0); obtain ⟨y0, y1, y2, y3, y4, y5⟩ := six (HX2.out.next hf.only.below0); go_simp
              try rfl
            · obtain ⟨a0, a1, a2, a3, a4, a5⟩ := six (HK5.out.1.next hf.only.below0); obtain ⟨b0, b1, b2, b3, b4, b5⟩ := six (HK5.out.2.1.next hf.only.below0); obtain ⟨x0, x1, x2, x3, x4, x5⟩ := six (HX1.out.next hf.only.below0); obtain ⟨y0, y1, y2, y3, y4, y5⟩ := six (HX2.out.next hf.only.below0); exact HSI.out w' (HR.out.1.next (HK5.out.2.2.trans (hf.only.below0.mono HK5.out.2.2.size))) (HR2.out.1.next (HK5.out.2.2.trans (hf.only.below0.mono HK5.out.2.2.size)))
            try simp only [Act.put, List.setIfInBounds_toArray, List.set_cons_zero, List.set_cons_succ]
            repeat (
              refine lex_val (v := ?_) rfl rfl (fun w' hf => ?_) ?_
              rotate_left
              · go_simp
                try rfl
              try simp only [Act.put, List.setIfInBounds_toArray, List.set_cons_zero, List.set_cons_succ])
            refine lex_nil fun w6 he => ?_
            have HK6 := Lib.hid (HK5.out.next he.only.below0)
            have HX61 := Lib.hid (HX1.out.next he.only.below0); have HX62 := Lib.hid (HX2.out.next he.only.below0)
            have HB6 := Lib.hid he.only.below0
            clear he HK5 HX1 HX2
            obtain ⟨x0, x1, x2, x3, x4, x5⟩ := six HX61.out
            obtain ⟨y0, y1, y2, y3, y4, y5⟩ := six HX62.out
            go_wp2_with fail
            refine (HSm.out Px px Dx dx Py py Dy dy _ ((OInts.reads HF1.out.1).next HB6.out) ((OInts.reads HF3.out.1).next HB6.out) (OByt.reads (OByt.next HF1.out.2 HB6.out)) (OByt.reads (OByt.next HF3.out.2 HB6.out))).mono ?_
            rintro e w7 ⟨rfl, hb7⟩
            have HK7 := Lib.hid (HK6.out.next hb7)
            have HX71 := Lib.hid (HX61.out.next hb7)
            clear hb7 x0 x1 x2 x3 x4 x5 y0 y1 y2 y3 y4 y5 HK6 HX61 HX62 HB6 HF1 HF3 HSm
            obtain ⟨x0, x1, x2, x3, x4, x5⟩ := six HX71.out
            go_wp2_with fail
            refine (HI1.out Px px Dx dx _ (HT.out.next HK7.out.2.2)).mono ?_
            rintro e w8 ⟨rfl, hb8⟩
            have HK8 := Lib.hid (HK7.out.next hb8)
            have HX81 := Lib.hid (HX71.out.next hb8)
            clear hb8 x0 x1 x2 x3 x4 x5 HK7 HX71
            obtain ⟨x0, x1, x2, x3, x4, x5⟩ := six HX81.out
            go_wp2_with fail
            refine (HI1.out Px px Dx dx _ (HT.out.next HK8.out.2.2)).mono ?_
            rintro e w9 ⟨rfl, hb9⟩
            have HK9 := Lib.hid (HK8.out.next hb9)
            clear hb9 x0 x1 x2 x3 x4 x5 HK8 HX81
            go_wp2_with fail
            go_ret
            exact ⟨rfl, HK9.out.2.2⟩
        · have t2 : (q2 != 0) = true := by simpa using z2
          clear z2
          obtain ⟨a0, a1, a2, a3, a4, a5⟩ := six HK4.out.1
          obtain ⟨b0, b1, b2, b3, b4, b5⟩ := six HK4.out.2.1
          go_wp2_with fail
          go_ret
          exact ⟨rfl, HK4.out.2.2⟩
      · have t1 : (q1 != 0) = true := by simpa using z1
        clear z1
        go_wp2_with fail
        go_ret
        exact ⟨rfl, HK3.out.2.2⟩
    · have n2 : (k2 != 4) = true := by simpa using hk2
      clear hk2
      unfold tkC at HK0 ⊢
      go_enter Tryd.func6, Tryd.ntmps6
      go_upto_region 1 with fail
      generalize (w.alloc (.cells #[.int .i64 4, .int .u8 (c : Int), .int .u8 (m : Int), .slice P ps.length pc, .string s, .slice D dt.length dc] 25)).alloc (.cells #[.int .i64 k2, .int .u8 (c2 : Int), .int .u8 (m2 : Int), .slice P2 ps2.length pc2, .string s2, .slice D2 dt2.length dc2] 25) = w1 at *
      go_wp2_with fail
      refine (HAw.out _ (HT.out.next HK0.out.2.2)).mono ?_
      rintro e w2 ⟨rfl, hb2⟩
      have HK2 := Lib.hid (HK0.out.next hb2)
      clear hb2 HK0 HAw
      obtain ⟨a0, a1, a2, a3, a4, a5⟩ := six HK2.out.1
      obtain ⟨b0, b1, b2, b3, b4, b5⟩ := six HK2.out.2.1
      go_wp2_with fail
      go_ret
      exact ⟨rfl, HK2.out.2.2⟩
  · have n1 : (k != 4) = true := by simpa using hk
    clear hk
    unfold tkC at HK0 ⊢
    go_enter Tryd.func6, Tryd.ntmps6
    go_upto_region 1 with fail
    generalize (w.alloc (.cells #[.int .i64 k, .int .u8 (c : Int), .int .u8 (m : Int), .slice P ps.length pc, .string s, .slice D dt.length dc] 25)).alloc (.cells #[.int .i64 k2, .int .u8 (c2 : Int), .int .u8 (m2 : Int), .slice P2 ps2.length pc2, .string s2, .slice D2 dt2.length dc2] 25) = w1 at *
    go_wp2_with fail
    refine (HAw.out _ (HT.out.next HK0.out.2.2)).mono ?_
    rintro e w2 ⟨rfl, hb2⟩
    have HK2 := Lib.hid (HK0.out.next hb2)
    clear hb2 HK0 HAw
    obtain ⟨a0, a1, a2, a3, a4, a5⟩ := six HK2.out.1
    obtain ⟨b0, b1, b2, b3, b4, b5⟩ := six HK2.out.2.1
    go_wp2_with fail
    go_ret
    exact ⟨rfl, HK2.out.2.2⟩

set_option maxRecDepth 100000 in
/-- What the walk gives, for every argument and every world that holds the table. -/
theorem contract (H : Type) (enc : TypeId × Value → H) (W : World) (base : Nat) (args : Array Value) (ds gs : List (DataW H)) (before : List MemPlace)
    (hval : ∀ (j : Nat) t v, Tryd.f6.params[j]? = some t → args[j]? = some v → Value.okWide Tryd.prog W .any base t v)
    (hW : DataW.Whole enc Tryd.prog Tryd.f6.params.toList Rows.tokenFunctionsSpec.vars false W args.toList ds gs before) (hL : laidMetH Tryd.prog Rows.tokenFunctionsRow.laid W)
    (hreach : (DataW.weightsEach Tryd.prog (Tryd.f6.params.toList ++ []) (ds ++ gs)).all (· ≤ reachBytes) = true) :
    Calls Tryd.prog 6 args W fun e W' => ∃ v, e = .returned v ∧ Rows.tokenFunctionsSpec.post enc Tryd.prog Tryd.f6 false true false false W args v W' := by
  have hW' := hW
  have ht := ten_of hL
  have hlts : ∀ x ∈ before, x.block < W.heap.size := fun x hx => hW'.lt x hx
  obtain ⟨p, q, hA0, hV, rfl, hfz, hnd⟩ := hW
  have hA : DataW.TrodAll enc Tryd.prog W 0 (fun _ => true) true Tryd.f6.params.toList args.toList ds p := hA0
  rw [Tryd.params6] at hA hval hreach
  obtain ⟨v0, vs0, d0, ds0, pp0, qq0, hargs, rfl, rfl, h0, rr0⟩ := trodAll_cons hA
  obtain ⟨v1, vs1, d1, ds1, pp1, qq1, rfl, rfl, rfl, h1, rr1⟩ := trodAll_cons rr0
  obtain ⟨rfl, rfl, rfl⟩ := trodAll_nil rr1
  obtain rfl : args = #[v0, v1] := by cases args; simp_all
  obtain ⟨rfl, rfl⟩ := trodVars_none hV
  obtain ⟨k0, c0, m0, P0, ps0, pc0, s0, D0, dt0, dc0, rfl, _, _, hp0, _, hs0, hd0, _, _, hrp0, hrb0⟩ := tok_in (hval 0 25 v0 rfl rfl) h0 (by rw [List.all_eq_true]; exact fun n hn => List.all_eq_true.1 hreach n (DataW.weights_mem_each (j := 0) rfl rfl n hn))
  have hri0 := And.intro hrp0 hrb0
  obtain ⟨k1, c1, m1, P1, ps1, pc1, s1, D1, dt1, dc1, rfl, _, _, hp1, _, hs1, hd1, _, _, hrp1, hrb1⟩ := tok_in (hval 1 25 v1 rfl rfl) h1 (by rw [List.all_eq_true]; exact fun n hn => List.all_eq_true.1 hreach n (DataW.weights_mem_each (j := 1) rfl rfl n hn))
  have hri1 := And.intro hrp1 hrb1
  clear hA0
  refine (walk k0 c0 m0 P0 ps0 pc0 s0 D0 dt0 dc0 hp0 hs0 hd0 k1 c1 m1 P1 ps1 pc1 s1 D1 dt1 dc1 hp1 hs1 hd1 W ht hri0 hri1).mono fun e W' ⟨he, hb⟩ => ?_
  subst he
  exact ⟨_, rfl, post_law laidOut (by kernel_rfl) (by kernel_rfl) rfl hW' rfl hb⟩

set_option maxRecDepth 100000 in
theorem laid_met (os : Os) : laidMet Tryd.prog Rows.tokenFunctionsRow.laid ((laidWorld os).forCall (fun _ _ => 0) ⟨#[], #[Value.agg #[.int .i64 0, .int .u8 0, .int .u8 0, .slice none 0 0, .string ⟨#[]⟩, .slice none 0 0], Value.agg #[.int .i64 0, .int .u8 0, .int .u8 0, .slice none 0 0, .string ⟨#[]⟩, .slice none 0 0]], []⟩).memory :=
  laidMet_of_run' 8 (by kernel_rfl) (by kernel_rfl)
set_option maxRecDepth 100000 in
theorem reads (os : Os) {H : Type} (enc : TypeId × Value → H) : ∃ places, DataW.whole enc Tryd.prog ((laidWorld os).forCall (fun _ _ => 0) ⟨#[], #[Value.agg #[.int .i64 0, .int .u8 0, .int .u8 0, .slice none 0 0, .string ⟨#[]⟩, .slice none 0 0], Value.agg #[.int .i64 0, .int .u8 0, .int .u8 0, .slice none 0 0, .string ⟨#[]⟩, .slice none 0 0]], []⟩).memory Tryd.f6.params.toList Rows.tokenFunctionsSpec.vars false (#[Value.agg #[.int .i64 0, .int .u8 0, .int .u8 0, .slice none 0 0, .string ⟨#[]⟩, .slice none 0 0], Value.agg #[.int .i64 0, .int .u8 0, .int .u8 0, .slice none 0 0, .string ⟨#[]⟩, .slice none 0 0]] : Array Value).toList 8 = some ([.agg [.lit (.int .i64 0), .lit (.int .u8 0), .lit (.int .u8 0), .nil, .lit (.string []), .nil], .agg [.lit (.int .i64 0), .lit (.int .u8 0), .lit (.int .u8 0), .nil, .lit (.string []), .nil]], [], places) :=
  ⟨[], by kernel_rfl⟩

set_option maxRecDepth 100000 in
theorem lifted (os : Os) (started : os.Started) (H : Type) (enc : TypeId × Value → H) (F : Stop.Interp) :
    ReturnsInHanded {} Tryd.checked os 6 .any ((OpenSpec.ofChange Rows.tokenFunctionsSpec).preRow enc Tryd.prog Tryd.f6 Rows.tokenFunctionsRow.domain false Rows.tokenFunctionsRow.laid) (((OpenSpec.ofChange Rows.tokenFunctionsSpec).at F).post enc Tryd.prog Tryd.f6 false true false false) := by
  obtain ⟨places, hx⟩ := reads os enc
  refine returnsInHanded_of_row (C := Tryd.checked) (s := OpenSpec.ofChange Rows.tokenFunctionsSpec) own started (by kernel_rfl) Tryd.func6
    (witness_row_at (enc := enc) (C := Tryd.checked) false (laidWorld os) #[Value.agg #[.int .i64 0, .int .u8 0, .int .u8 0, .slice none 0 0, .string ⟨#[]⟩, .slice none 0 0], Value.agg #[.int .i64 0, .int .u8 0, .int .u8 0, .slice none 0 0, .string ⟨#[]⟩, .slice none 0 0]] rfl (by kernel_rfl) (by kernel_rfl) (by kernel_rfl)
      (OpenSpec.preRow_of_cond 8 hx (by kernel_rfl) (fun k hk => by cases hk) (by kernel_rfl) (laid_met os))) ?_
  intro W base args ds gs before hval hW _ _ hreach hL _ _
  exact contract H enc W base args ds gs before hval hW hL hreach

theorem said : Rows.TokenFunctionsSaid :=
  OpenClaim.holds_of_cond 6 Tryd.f6 rfl rfl rfl rfl rfl rfl rfl ⟨rfl, rfl, rfl, rfl, rfl⟩ rfl rfl rfl rfl rfl (by kernel_rfl) Tryd.func6 (by kernel_rfl)
    (of_decide_eq_true (by kernel_rfl)) (by unfold Func.isWrapper; first | (rw [if_pos (by decide +kernel)]; kernel_rfl) | (rw [if_neg (by decide +kernel)]; exact ⟨rfl, rfl⟩))
    (fun os started H enc _ F => by rw [OpenClaim.pre_eq_preRow]; exact lifted os started H enc F)

theorem plain (f : FuncId) (fn : Func) (hf : Tryd.pinned.checked.prog.funcNamed "phosphor/phosphorlaw11.TokenFunctions" = some f) (hfn : Tryd.pinned.checked.prog.funcs[f]? = some fn) :
    false = Tryd.pinned.checked.prog.looks [] ∧ ∀ (j : Nat) t, fn.params[j]? = some t → Tryd.pinned.checked.prog.wantsStandIn t = false := by
  obtain rfl : f = 6 := Option.some.inj ((show Tryd.prog.funcNamed "phosphor/phosphorlaw11.TokenFunctions" = some 6 by kernel_rfl).symm.trans hf) |>.symm
  obtain rfl : fn = Tryd.f6 := (Option.some.inj (Tryd.func6.symm.trans hfn)).symm
  refine ⟨by kernel_rfl, fun j t ht => ?_⟩
  rw [Tryd.params6] at ht
  have hm : t ∈ [25, 25] := by simpa using Array.mem_of_getElem? ht
  have hall : ([25, 25].all fun u => !Tryd.prog.wantsStandIn u) = true := by kernel_rfl
  exact (show Tryd.prog.wantsStandIn t = false by simpa using List.all_eq_true.1 hall t hm)

/-- The card. -/
theorem card : Rows.TokenFunctionsCardSaid :=
  Claim7.holds_tied_plain_at .later [] _ _ _ _ said (fun _ h => by cases h) (by kernel_rfl) (fun _ h => by cases h) tokenFunctions_row_tie rfl ⟨rfl, rfl⟩ (by kernel_rfl) rfl plain (by kernel_rfl)
#print axioms card
end Go.Proofs.YteppkddapeekdaaDoor.tokenFunctions

/-
  KeysApart holds, whatever the input: the card of the statement, with the library's three tables and the keys' two tables of numbers tied to the program's text.
-/
import Derived.Test.YtigaaidacndeiaaGreatDoorCards
import Derived.Test.YtigaaidacndeiaaGreatDoorTie
import Derived.Test.YtigaaidacndeiaaGreatDoorFrameKe
import Derived.Test.YtigaaidacndeiaaGreatDoorKeyP
import Derived.Test.YtigaaidacndeiaaGreatDoorFrameKb2
namespace Go.Proofs.YtigaaidacndeiaaGreatDoor.keysApart
open Go.ChangeShapes Go.WideShapes Go.ChangeAt Go.RowKit
open Go.ChangeMaps (open_string)

theorem strE_beq (a b : ByteArray) : (a.toList == b.toList) = decide (a = b) := by
  rw [ByteArray.toList_eq, ByteArray.toList_eq]
  by_cases h : a = b
  · subst h; simp
  · rw [decide_eq_false h, beq_eq_false_iff_ne]
    intro e
    exact h (ByteArray.ext (Array.toList_inj.1 e))
set_option maxRecDepth 100000 in
set_option maxHeartbeats 32000000 in
theorem walk (ka : Int) (ca : Nat) (sa ta : Bool) (hca : ca < 256) (kb : Int) (cb : Nat) (sb tb : Bool) (hcb : cb < 256) (eight : Bool) (w : World) (he : KEnv w) :
    Calls Tryz.prog 4 #[.agg #[.int .i64 ka, .int .u8 (ca : Int), .bool sa, .bool ta], .agg #[.int .i64 kb, .int .u8 (cb : Int), .bool sb, .bool tb], .bool eight] w fun e w' => e = .returned (.bool true) ∧ Below w.heap.size w w' := by
  have HE0 := Lib.hid he
  have HCa := Lib.hid hca; have HCb := Lib.hid hcb
  have b0 := (Blk.new w 38 #[.int .i64 ka, .int .u8 (ca : Int), .bool sa, .bool ta]).alloc (.cells #[.int .i64 kb, .int .u8 (cb : Int), .bool sb, .bool tb] 38)
  have b1 := Blk.new (w.alloc (.cells #[.int .i64 ka, .int .u8 (ca : Int), .bool sa, .bool ta] 38)) 38 #[.int .i64 kb, .int .u8 (cb : Int), .bool sb, .bool tb]
  rw [World.size_alloc] at b1
  have hB0 : Below w.heap.size w ((w.alloc (.cells #[.int .i64 ka, .int .u8 (ca : Int), .bool sa, .bool ta] 38)).alloc (.cells #[.int .i64 kb, .int .u8 (cb : Int), .bool sb, .bool tb] 38)) := ((Below.refl _ _).alloc (Nat.le_refl _) _).alloc (by simp) _
  have HAw := Lib.hid (keyAwake_any _ (HE0.out.next hB0))
  have HBw := Lib.hid hB0; have Hb0 := Lib.hid b0; have Hb1 := Lib.hid b1
  clear he hB0 b0 b1 hca hcb
  go_enter Tryz.func4, Tryz.ntmps4
  go_upto_region 1 with fail
  generalize ((w.alloc (.cells #[.int .i64 ka, .int .u8 (ca : Int), .bool sa, .bool ta] 38)).alloc (.cells #[.int .i64 kb, .int .u8 (cb : Int), .bool sb, .bool tb] 38)) = W0 at *
  --#1
  go_wp2_with fail
  refine HAw.out.mono ?_
  rintro e w1 ⟨rfl, hb⟩
  have hl := Hb1.out.lt
  have HW1 := Lib.hid (HBw.out.trans (hb.mono HBw.out.size))
  have Hc0 := Lib.hid (Hb0.out.next hb); have Hc1 := Lib.hid (Hb1.out.next hb)
  have HK0 : Hid (w.heap.size + 1 < w1.heap.size) := Lib.hid (by have := hb.size; omega)
  have x0 := Hc0.out.cell 0; have x1 := Hc0.out.cell 1; have x2 := Hc0.out.cell 2; have x3 := Hc0.out.cell 3
  have y0 := Hc1.out.cell 0; have y1 := Hc1.out.cell 1; have y2 := Hc1.out.cell 2; have y3 := Hc1.out.cell 3
  clear hb HAw Hb0 Hb1 HBw hl
  --#2
  go_upto_region 4 with fail
  rw [zero_keys]
  go_upto_region 5 with fail
  --#3
  have hAp : ApW w w.heap.size (w.heap.size + 1) w1.heap.size (w1.heap.size + 1) (w1.heap.size + 2) #[.int .i64 ka, .int .u8 (ca : Int), .bool sa, .bool ta] #[.int .i64 kb, .int .u8 (cb : Int), .bool sb, .bool tb] #[.int .i64 ka, .int .u8 (ca : Int), .bool sa, .bool ta, .int .i64 kb, .int .u8 (cb : Int), .bool sb, .bool tb] ⟨#[]⟩ ⟨#[]⟩ (((w1.alloc (.cells (keyC noT false) 41)).alloc (.cells #[.string ⟨#[]⟩, .string ⟨#[]⟩] 42)).alloc (.cells #[.int .i64 ka, .int .u8 (ca : Int), .bool sa, .bool ta, .int .i64 kb, .int .u8 (cb : Int), .bool sb, .bool tb] 38)) := by
    have q1 : Below w1.heap.size w1 (w1.alloc (.cells (keyC noT false) 41)) := (Below.refl _ _).alloc (Nat.le_refl _) _
    have q2 := q1.alloc q1.size (.cells #[.string ⟨#[]⟩, .string ⟨#[]⟩] 42)
    have q3 := q2.alloc q2.size (.cells #[.int .i64 ka, .int .u8 (ca : Int), .bool sa, .bool ta, .int .i64 kb, .int .u8 (cb : Int), .bool sb, .bool tb] 38)
    have k1 := KeyB.new w1 noT false rfl
    have s1 := Blk.new (w1.alloc (.cells (keyC noT false) 41)) 42 #[.string ⟨#[]⟩, .string ⟨#[]⟩]
    have g1 := Blk.new ((w1.alloc (.cells (keyC noT false) 41)).alloc (.cells #[.string ⟨#[]⟩, .string ⟨#[]⟩] 42)) 38 #[.int .i64 ka, .int .u8 (ca : Int), .bool sa, .bool ta, .int .i64 kb, .int .u8 (cb : Int), .bool sb, .bool tb]
    rw [World.size_alloc] at s1
    rw [World.size_alloc, World.size_alloc] at g1
    exact ⟨HW1.out.trans (q3.mono HW1.out.size), Hc0.out.next q3, Hc1.out.next q3, (k1.next ((Below.refl _ _).alloc (Nat.le_refl _) _)).next ((Below.refl _ _).alloc (Nat.le_refl _) _), s1.next ((Below.refl _ _).alloc (Nat.le_refl _) _), g1⟩
  have HAp := Lib.hid hAp
  have q2 : Below w1.heap.size w1 ((w1.alloc (.cells (keyC noT false) 41)).alloc (.cells #[.string ⟨#[]⟩, .string ⟨#[]⟩] 42)) := ((Below.refl _ _).alloc (Nat.le_refl _) _).alloc (by simp) _
  have Hd0 := Lib.hid (Hc0.out.next q2); have Hd1 := Lib.hid (Hc1.out.next q2)
  have e2 : ((w1.alloc (.cells (keyC noT false) 41)).alloc (.cells #[.string ⟨#[]⟩, .string ⟨#[]⟩] 42)).heap.size = w1.heap.size + 2 := by simp
  clear hAp q2 x0 x1 x2 x3 y0 y1 y2 y3 Hc0 Hc1
  generalize ((w1.alloc (.cells (keyC noT false) 41)).alloc (.cells #[.string ⟨#[]⟩, .string ⟨#[]⟩] 42)) = w2 at *
  have x0 := Hd0.out.cell 0; have x1 := Hd0.out.cell 1; have x2 := Hd0.out.cell 2; have x3 := Hd0.out.cell 3
  have y0 := Hd1.out.cell 0; have y1 := Hd1.out.cell 1; have y2 := Hd1.out.cell 2; have y3 := Hd1.out.cell 3
  have HE2 := Lib.hid e2
  clear e2
  go_wp2_with fail
  rw [HE2.out]
  --#4
  clear x0 x1 x2 x3 y0 y1 y2 y3 Hd0 Hd1 HW1 HE2
  generalize w1.heap.size = K at *
  go_loopw [22] (fun i wr => ∃ (j : Nat) (t0 t1 : ByteArray), j ≤ 2 ∧ i = .int .i64 j ∧ (0 < j → okKey ka ca ∧ t0 = bstr (numbP eight (nKey ka ca))) ∧ (1 < j → okKey kb cb ∧ t1 = bstr (numbP eight (nKey kb cb))) ∧ ApW w w.heap.size (w.heap.size + 1) K (K + 1) (K + 2) #[.int .i64 ka, .int .u8 (ca : Int), .bool sa, .bool ta] #[.int .i64 kb, .int .u8 (cb : Int), .bool sb, .bool tb] #[.int .i64 ka, .int .u8 (ca : Int), .bool sa, .bool ta, .int .i64 kb, .int .u8 (cb : Int), .bool sb, .bool tb] t0 t1 wr) (fun i _ => 2 - (intOf i).toNat)
  case atStart => exact ⟨0, _, _, by omega, rfl, fun h => absurd h (by omega), fun h => absurd h (by omega), HAp.out⟩
  case round =>
    obtain ⟨j, t0, t1, hj, rfl, hp0, hp1, hw⟩ := hrel
    have HW := Lib.hid hw
    clear hw HAp
    rcases (by omega : j = 0 ∨ j = 1 ∨ j = 2) with rfl | rfl | rfl
    · --#5
      clear hp0 hp1
      have y0 := HW.out.ls.cell 0; have y1 := HW.out.ls.cell 1; have y2 := HW.out.ls.cell 2; have y3 := HW.out.ls.cell 3
      have hal : Below wr.heap.size wr (wr.alloc (.cells #[.int .i64 ka, .int .u8 (ca : Int), .bool sa, .bool ta] 38)) := (Below.refl _ _).alloc (Nat.le_refl _) _
      have HWa := Lib.hid (HW.out.next hal)
      have HXa := Lib.hid (Blk.new wr 38 #[.int .i64 ka, .int .u8 (ca : Int), .bool sa, .bool ta])
      have HGt : Hid (w.heap.size ≤ wr.heap.size ∧ w.heap.size < wr.heap.size ∧ w.heap.size + 1 < wr.heap.size ∧ K < wr.heap.size ∧ K + 1 < wr.heap.size ∧ K + 2 < wr.heap.size) := Lib.hid ⟨HW.out.bel.size, HW.out.ba.lt, HW.out.bb.lt, HW.out.key.1.lt, HW.out.sent.lt, HW.out.ls.lt⟩
      have HNm := Lib.hid (fun W => refNum_any ca HCa.out W)
      clear hal
      --#a1
      go_upto_region 8 with fail
      generalize wr.alloc (.cells #[.int .i64 ka, .int .u8 (ca : Int), .bool sa, .bool ta] 38) = wa at *
      generalize wr.heap.size = gt at *
      clear y0 y1 y2 y3 HW
      have x0 := HXa.out.cell 0; have x1 := HXa.out.cell 1; have x2 := HXa.out.cell 2; have x3 := HXa.out.cell 3
      --#a2
      have hwc : IntKind.i64.wrap (ca : Int) = (ca : Int) := IntWalk.i64_in _ (by have := HCa.out; omega)
      go_wp2_with fail
      --#a2b
      refine (HNm.out wa).mono ?_
      rintro e wb ⟨rfl, hb⟩
      have HWb := Lib.hid (HWa.out.next hb)
      have HXb := Lib.hid (HXa.out.next hb)
      clear hb HWa HXa HNm x0 x1 x2 x3
      have x0 := HXb.out.cell 0; have x1 := HXb.out.cell 1; have x2 := HXb.out.cell 2; have x3 := HXb.out.cell 3
      go_upto_region 9 with fail
      --#a3
      by_cases h9 : ka < 9
      · have g1 : ((9 : Int) ≤ ka) = False := eq_false (by omega)
        have g3 : (ka == 16) = false := beq_eq_false_iff_ne.2 (by omega)
        go_wp2_with fail
        go_ret
        exact ⟨rfl, HWb.out.bel⟩
      have g1 : ((9 : Int) ≤ ka) = True := eq_true (by omega)
      by_cases h14 : ka ≤ 14
      · have g2 : (ka ≤ 14) = True := eq_true h14
        have g4 : (ka != 16) = true := bne_iff_ne.2 (by omega)
        --#aA0
        have hN : 1 ≤ (ka - 8) ∧ (ka - 8) ≤ 34 := by omega
        have HFd := Lib.hid (numb_feed hN eight)
        have HLn := Lib.hid (rep_len 4 ⟨#[126]⟩ ⟨#[]⟩ [(ka - 8)] eight)
        have HLt := Lib.hid (rep_lt 4 ⟨#[126]⟩ ⟨#[]⟩ [(ka - 8)] eight)
        have HRc : Hid (∀ A' c' W, RInts W A' [(ka - 8)] → Calls Tryz.prog 10 #[.bool eight, .string ⟨#[126]⟩, .slice A' 1 c'] W fun e w' => Gives W w' e (numbP eight (ka - 8)) ∧ Below W.heap.size W w') := Lib.hid (fun A' c' W h => refCsi_any eight ⟨#[126]⟩ A' c' [(ka - 8)] (by unfold maxLen; simp) (by decide) W h)
        have HEn : Hid (∀ W, KEnv W → KeyB W K noT false → Calls Tryz.prog 17 #[.agg #[.int .i64 ka, .int .u8 0, .bool false, .bool ta], .int .u32 0, .int .i64 2, .bool eight, .pointer (some ⟨K, 0, none⟩)] W fun e w' => GivB W.heap.size w' e (numbP eight (ka - 8)) ∧ Below W.heap.size W w') := Lib.hid (fun W h1 h2 => by
          have q := enc_any ka 0 false ta 0 2 eight K noT false (by decide) (by decide) W (h1.key h2)
          rw [enc_A (by omega)] at q
          exact q)
        have HOw : Hid (∀ W, Calls Tryz.prog 18 #[.agg #[.int .i64 ka, .int .u8 0, .bool false, .bool ta]] W fun e w' => e = .returned (.agg #[.int .i64 ka, .int .u8 0, .bool false, .bool ta]) ∧ Below W.heap.size W w') := Lib.hid (fun W => ownK_any ka 0 false ta W)
        have HNk : Hid (nKey ka ca = (ka - 8)) := Lib.hid (by unfold nKey; rw [if_neg (by omega)])
        have HOk : Hid (okKey ka ca) := Lib.hid ((.inl (by omega)))
        have hw8 : IntKind.i64.wrap (ka - 8) = ka - 8 := IntWalk.i64_in _ (by omega)
        obtain ⟨lN, hlN⟩ : ∃ lN, lN = numbP eight (ka - 8) := ⟨_, rfl⟩
        have HlN := Lib.hid hlN
        change Hid ((numbP eight (ka - 8)).length ≤ 4290) at HLn
        change Hid (∀ n ∈ numbP eight (ka - 8), n < 256) at HLt
        rw [← hlN] at HFd HRc HEn HLn HLt
        clear hlN hN
        have f1 : wb.frozen? ⟨gt, 1, none⟩ = false := HXb.out.frozen 1
        have f2 : (wb.setCell ⟨gt, 1, none⟩ (.int .u8 0)).frozen? ⟨gt, 2, none⟩ = false := (HXb.out.set_ 1 _).frozen 2
        --#aA1
        go_upto_region 12 with fail
        go_upto_region 13 with fail
        go_upto_region 14 with fail
        have HWq := Lib.hid ((HWb.out.put (g := gt) (i := 1) HGt.out.1 (by have := HGt.out; omega) (by have := HGt.out; omega) (by have := HGt.out; omega) (by have := HGt.out; omega) (by have := HGt.out; omega) (.int .u8 0)).put (g := gt) (i := 2) HGt.out.1 (by have := HGt.out; omega) (by have := HGt.out; omega) (by have := HGt.out; omega) (by have := HGt.out; omega) (by have := HGt.out; omega) (.bool false))
        have HXq := Lib.hid ((HXb.out.set_ 1 (.int .u8 0)).set_ 2 (.bool false))
        generalize (wb.setCell ⟨gt, 1, none⟩ (.int .u8 0)).setCell ⟨gt, 2, none⟩ (.bool false) = wq at *
        clear HWb HXb x0 x1 x2 x3 f2 f1
        replace HXq : Hid (Blk wq gt 38 #[.int .i64 ka, .int .u8 0, .bool false, .bool ta]) := HXq
        have x0 := HXq.out.cell 0; have x1 := HXq.out.cell 1; have x2 := HXq.out.cell 2; have x3 := HXq.out.cell 3
        --#aA2
        go_wp2_with fail
        refine (HOw.out wq).mono ?_
        rintro e wr2 ⟨rfl, hb⟩
        have HW3 := Lib.hid (HWq.out.next hb)
        have HX3 := Lib.hid (HXq.out.next hb)
        have HE3 := Lib.hid (HEn.out wr2 (HE0.out.next HW3.out.bel) HW3.out.key)
        clear hb HWq HXq HOw HEn x0 x1 x2 x3
        --#aA3
        go_wp2_with fail
        refine HE3.out.mono ?_
        rintro e w4 ⟨⟨A4, c4, rfl, hr4, _⟩, hb⟩
        have HW4 := Lib.hid (HW3.out.next hb)
        have HX4 := Lib.hid (HX3.out.next hb)
        have HR4 := Lib.hid hr4
        have HS4 := Lib.hid (split_any A4 c4 lN HLt.out (by have := HLn.out; omega) w4 hr4)
        rw [HFd.out] at HS4
        dsimp only at HS4
        clear hb hr4 HE3 HW3 HX3
        --#aA4
        go_wp2_with fail
        refine HS4.out.mono ?_
        rintro e w5 ⟨v5, rfl, ho5, hb⟩
        obtain ⟨A5, c5, rfl, _⟩ := ho5.reads
        have HW5 := Lib.hid (HW4.out.next hb)
        have HX5 := Lib.hid (HX4.out.next hb)
        have HR5 := Lib.hid (HR4.out.next hb)
        clear hb ho5 HS4 HW4 HX4 HR4 HFd
        have x0 := HX5.out.cell 0; have x1 := HX5.out.cell 1; have x2 := HX5.out.cell 2; have x3 := HX5.out.cell 3
        have HCv := Lib.hid (fun W (h : RByt W A4 lN) => conv_by h c4)
        have HCw := Lib.hid (fun A' n W (h : RByt W A' lN) => conv_by (A := A') h n)
        --#aA5
        go_upto_region 19 with fail

        refine wp_region_mix_lit (by kernel_rfl) [(8, .letter (IlP 1) (IlF w5.heap.size [(ka - 8)])), (9, .letter (BtP lN.length) (BtF w5.heap.size lN))] (by kernel_rfl) (by kernel_rfl) (by kernel_rfl) (by rfl) (by simp [apartK] <;> omega) (by simp [startK]) (by simp only [List.forall_mem_cons, stabK]; exact ⟨ilV_stab _ _ _ (by simp [boxes, Kind.boxed]), btV_stab _ _ _ (by simp [boxes, Kind.boxed]), by simp⟩) (⟨fun i => if i = 9 then .slice none lN.length 0 else .slice none 1 0, by simp only [List.forall_mem_cons, okK]; exact ⟨⟨none, 0, rfl⟩, ⟨none, 0, rfl⟩, by simp⟩⟩) (fun β hβ => ?_)
        obtain ⟨A8, c8, e8⟩ := (hβ 8 : IlP 1 (β 8))
        obtain ⟨A9, c9, e9⟩ := (hβ 9 : BtP lN.length (β 9))
        --#aA6
        refine lex_val (v := ?_) rfl rfl (fun w' hf => ?_) ?_
        rotate_left
        · go_simp
          try rfl
        try simp only [Act.put, List.setIfInBounds_toArray, List.set_cons_zero, List.set_cons_succ]
        refine lex_val (v := ?_) rfl rfl (fun w' hf => ?_) ?_
        rotate_left
        · go_simp
          try rfl
        try simp only [Act.put, List.setIfInBounds_toArray, List.set_cons_zero, List.set_cons_succ]
        refine lex_val (v := ?_) rfl rfl (fun w' hf => ?_) ?_
        rotate_left
        · go_simp
          try rfl
        try simp only [Act.put, List.setIfInBounds_toArray, List.set_cons_zero, List.set_cons_succ]
        refine lex_val (v := ?_) rfl rfl (fun w' hf => ?_) ?_
        rotate_left
        · go_simp
          try rfl
        try simp only [Act.put, List.setIfInBounds_toArray, List.set_cons_zero, List.set_cons_succ]
        refine lex_val (v := ?_) rfl rfl (fun w' hf => ?_) ?_
        rotate_left
        · go_simp
          try rfl
        try simp only [Act.put, List.setIfInBounds_toArray, List.set_cons_zero, List.set_cons_succ]
        refine lex_val (v := ?_) rfl rfl (fun w' hf => ?_) ?_
        rotate_left
        · have q := HCv.out w' (HR5.out.next hf.only.below0); go_simp
          try rfl
        try simp only [Act.put, List.setIfInBounds_toArray, List.set_cons_zero, List.set_cons_succ]
        refine lex_val (v := ?_) rfl rfl (fun w' hf => ?_) ?_
        rotate_left
        · go_simp
          try rfl
        try simp only [Act.put, List.setIfInBounds_toArray, List.set_cons_zero, List.set_cons_succ]
        refine lex_val (v := ?_) rfl rfl (fun w' hf => ?_) ?_
        rotate_left
        · go_simp
          try rfl
        try simp only [Act.put, List.setIfInBounds_toArray, List.set_cons_zero, List.set_cons_succ]
        --#aA7
        refine lex_made rfl rfl (fun w' hf => ⟨.slice (some ⟨w'.heap.size, 0, none⟩) 1 1, w'.alloc (.cells #[.int .i64 (ka - 8)] 3), ?_, ⟨_, _, rfl⟩, oints_one rfl _ w5.heap.size _ hf.only.size rfl, (Below.refl _ _).alloc (Nat.le_refl _) _⟩) ?_
        · go_simp
        try simp only [Act.put, List.setIfInBounds_toArray, List.set_cons_zero, List.set_cons_succ]
        refine lex_letter (f := 10) (args := ?_) rfl rfl (fun w' hf => ?_) (fun w' hf => ?_) ?_
        rotate_left
        · have hg : IlF w5.heap.size [(ka - 8)] (β 8) w' := hf.got 8 _ _ rfl (by kernel_rfl); rw [e8] at hg; (try rw [e8]); go_simp
          try rfl
        · have hg : IlF w5.heap.size [(ka - 8)] (β 8) w' := hf.got 8 _ _ rfl (by kernel_rfl); rw [e8] at hg; (try rw [e8]); exact (HRc.out A8 c8 w' (OInts.reads hg)).mono (fun e w'' ⟨⟨v, h1, h2⟩, h4⟩ => ⟨_, h1, h2.form, own_base (obyt_own h2) hf.only.size, h4⟩)
        try simp only [Act.put, List.setIfInBounds_toArray, List.set_cons_zero, List.set_cons_succ]
        --#aA8
        refine lex_val (v := ?_) rfl rfl (fun w' hf => ?_) ?_
        rotate_left
        · have hg : BtF w5.heap.size lN (β 9) w' := hf.got 9 _ _ rfl (by kernel_rfl); rw [e9] at hg; rw [e9]; have q := HCw.out A9 c9 w' (OByt.reads hg); go_simp
          try rfl
        try simp only [Act.put, List.setIfInBounds_toArray, List.set_cons_zero, List.set_cons_succ]
        refine lex_val (v := ?_) rfl rfl (fun w' hf => ?_) ?_
        rotate_left
        · go_simp
          try rfl
        try simp only [Act.put, List.setIfInBounds_toArray, List.set_cons_zero, List.set_cons_succ]
        repeat (
          refine lex_val (v := ?_) rfl rfl (fun w' hf => ?_) ?_
          rotate_left
          · go_simp
            try rfl
          try simp only [Act.put, List.setIfInBounds_toArray, List.set_cons_zero, List.set_cons_succ])
        refine lex_nil fun w' he => ?_
        --#aA9
        rename World => w6
        have hb := he.only.below0
        have HW6 := Lib.hid (HW5.out.next hb)
        have HR6 := Lib.hid (HR5.out.next hb)
        clear he hb HW5 HR5 HX5 x0 x1 x2 x3 e8 e9 hβ
        have q6 := HCv.out w6 HR6.out
        (try simp only [Act.put, List.setIfInBounds_toArray, List.set_cons_zero, List.set_cons_succ])
        have HZ6 := Lib.hid (HW6.out.sent0 (by have := HK0.out; omega) (by have := HK0.out; omega) (by have := HK0.out; omega) (by omega) (by omega) 0 (bstr lN) (bstr lN) t1 rfl)
        obtain ⟨s0, s1⟩ : True ∧ True := ⟨trivial, trivial⟩
        have z0 := HW6.out.sent.cell 0
        have zf : w6.frozen? ⟨K + 1, 0, none⟩ = false := HW6.out.sent.frozen 0
        have HTs : Hid (bstr lN = bstr (numbP eight (nKey ka ca))) := Lib.hid (by rw [HlN.out]; exact congrArg (fun z => bstr (numbP eight z)) HNk.out.symm)
        --#aA10
        go_wp2_with fail
        go_roundw
        case rel => exact ⟨1, bstr lN, t1, by omega, by go_num, fun _ => ⟨HOk.out, HTs.out⟩, fun h => absurd h (by omega), HZ6.out⟩
        case measure => simp [intOf]
      have g2 : (ka ≤ 14) = False := eq_false h14
      by_cases h16 : ka = 16
      · subst h16
        clear h9 h14 g1 g2
        by_cases hk2 : 0 < numK ca
        · --#aB0
          have hN : 1 ≤ (numK ca) ∧ (numK ca) ≤ 34 := by have := numK_low ca hk2; have := numK_bounds ca; omega
          have HFd := Lib.hid (numb_feed hN eight)
          have HLn := Lib.hid (rep_len 4 ⟨#[126]⟩ ⟨#[]⟩ [(numK ca)] eight)
          have HLt := Lib.hid (rep_lt 4 ⟨#[126]⟩ ⟨#[]⟩ [(numK ca)] eight)
          have HRc : Hid (∀ A' c' W, RInts W A' [(numK ca)] → Calls Tryz.prog 10 #[.bool eight, .string ⟨#[126]⟩, .slice A' 1 c'] W fun e w' => Gives W w' e (numbP eight (numK ca)) ∧ Below W.heap.size W w') := Lib.hid (fun A' c' W h => refCsi_any eight ⟨#[126]⟩ A' c' [(numK ca)] (by unfold maxLen; simp) (by decide) W h)
          have HEn : Hid (∀ W, KEnv W → KeyB W K noT false → Calls Tryz.prog 17 #[.agg #[.int .i64 16, .int .u8 (ca : Int), .bool false, .bool ta], .int .u32 0, .int .i64 2, .bool eight, .pointer (some ⟨K, 0, none⟩)] W fun e w' => GivB W.heap.size w' e (numbP eight (numK ca)) ∧ Below W.heap.size W w') := Lib.hid (fun W h1 h2 => by
            have q := enc_any 16 ca false ta 0 2 eight K noT false (by exact HCa.out) (by decide) W (h1.key h2)
            rw [enc_B hk2] at q
            exact q)
          have HOw : Hid (∀ W, Calls Tryz.prog 18 #[.agg #[.int .i64 16, .int .u8 (ca : Int), .bool false, .bool ta]] W fun e w' => e = .returned (.agg #[.int .i64 16, .int .u8 (ca : Int), .bool false, .bool ta]) ∧ Below W.heap.size W w') := Lib.hid (fun W => ownK_any 16 ca false ta W)
          have HNk : Hid (nKey 16 ca = (numK ca)) := Lib.hid (by unfold nKey; rw [if_pos rfl])
          have HOk : Hid (okKey 16 ca) := Lib.hid ((.inr ⟨rfl, hk2⟩))
          have hk2' : ((0 : Int) < numK ca) = True := eq_true hk2
          obtain ⟨lN, hlN⟩ : ∃ lN, lN = numbP eight (numK ca) := ⟨_, rfl⟩
          have HlN := Lib.hid hlN
          change Hid ((numbP eight (numK ca)).length ≤ 4290) at HLn
          change Hid (∀ n ∈ numbP eight (numK ca), n < 256) at HLt
          rw [← hlN] at HFd HRc HEn HLn HLt
          clear hlN hN

          have f2 : wb.frozen? ⟨gt, 2, none⟩ = false := HXb.out.frozen 2
          --#aB1
          go_upto_region 13 with fail

          go_upto_region 14 with fail
          have HWq := Lib.hid ((HWb.out).put (g := gt) (i := 2) HGt.out.1 (by have := HGt.out; omega) (by have := HGt.out; omega) (by have := HGt.out; omega) (by have := HGt.out; omega) (by have := HGt.out; omega) (.bool false))
          have HXq := Lib.hid ((HXb.out).set_ 2 (.bool false))
          generalize wb.setCell ⟨gt, 2, none⟩ (.bool false) = wq at *
          clear HWb HXb x0 x1 x2 x3 f2 
          replace HXq : Hid (Blk wq gt 38 #[.int .i64 16, .int .u8 (ca : Int), .bool false, .bool ta]) := HXq
          have x0 := HXq.out.cell 0; have x1 := HXq.out.cell 1; have x2 := HXq.out.cell 2; have x3 := HXq.out.cell 3
          --#aB2
          go_wp2_with fail
          refine (HOw.out wq).mono ?_
          rintro e wr2 ⟨rfl, hb⟩
          have HW3 := Lib.hid (HWq.out.next hb)
          have HX3 := Lib.hid (HXq.out.next hb)
          have HE3 := Lib.hid (HEn.out wr2 (HE0.out.next HW3.out.bel) HW3.out.key)
          clear hb HWq HXq HOw HEn x0 x1 x2 x3
          --#aB3
          go_wp2_with fail
          refine HE3.out.mono ?_
          rintro e w4 ⟨⟨A4, c4, rfl, hr4, _⟩, hb⟩
          have HW4 := Lib.hid (HW3.out.next hb)
          have HX4 := Lib.hid (HX3.out.next hb)
          have HR4 := Lib.hid hr4
          have HS4 := Lib.hid (split_any A4 c4 lN HLt.out (by have := HLn.out; omega) w4 hr4)
          rw [HFd.out] at HS4
          dsimp only at HS4
          clear hb hr4 HE3 HW3 HX3
          --#aB4
          go_wp2_with fail
          refine HS4.out.mono ?_
          rintro e w5 ⟨v5, rfl, ho5, hb⟩
          obtain ⟨A5, c5, rfl, _⟩ := ho5.reads
          have HW5 := Lib.hid (HW4.out.next hb)
          have HX5 := Lib.hid (HX4.out.next hb)
          have HR5 := Lib.hid (HR4.out.next hb)
          clear hb ho5 HS4 HW4 HX4 HR4 HFd
          have x0 := HX5.out.cell 0; have x1 := HX5.out.cell 1; have x2 := HX5.out.cell 2; have x3 := HX5.out.cell 3
          have HCv := Lib.hid (fun W (h : RByt W A4 lN) => conv_by h c4)
          have HCw := Lib.hid (fun A' n W (h : RByt W A' lN) => conv_by (A := A') h n)
          --#aB5
          go_upto_region 19 with fail
          generalize numK ca = nn at *
          refine wp_region_mix_lit (by kernel_rfl) [(8, .letter (IlP 1) (IlF w5.heap.size [nn])), (9, .letter (BtP lN.length) (BtF w5.heap.size lN))] (by kernel_rfl) (by kernel_rfl) (by kernel_rfl) (by rfl) (by simp [apartK] <;> omega) (by simp [startK]) (by simp only [List.forall_mem_cons, stabK]; exact ⟨ilV_stab _ _ _ (by simp [boxes, Kind.boxed]), btV_stab _ _ _ (by simp [boxes, Kind.boxed]), by simp⟩) (⟨fun i => if i = 9 then .slice none lN.length 0 else .slice none 1 0, by simp only [List.forall_mem_cons, okK]; exact ⟨⟨none, 0, rfl⟩, ⟨none, 0, rfl⟩, by simp⟩⟩) (fun β hβ => ?_)
          obtain ⟨A8, c8, e8⟩ := (hβ 8 : IlP 1 (β 8))
          obtain ⟨A9, c9, e9⟩ := (hβ 9 : BtP lN.length (β 9))
          --#aB6
          refine lex_val (v := ?_) rfl rfl (fun w' hf => ?_) ?_
          rotate_left
          · go_simp
            try rfl
          try simp only [Act.put, List.setIfInBounds_toArray, List.set_cons_zero, List.set_cons_succ]
          refine lex_val (v := ?_) rfl rfl (fun w' hf => ?_) ?_
          rotate_left
          · go_simp
            try rfl
          try simp only [Act.put, List.setIfInBounds_toArray, List.set_cons_zero, List.set_cons_succ]
          refine lex_val (v := ?_) rfl rfl (fun w' hf => ?_) ?_
          rotate_left
          · go_simp
            try rfl
          try simp only [Act.put, List.setIfInBounds_toArray, List.set_cons_zero, List.set_cons_succ]
          refine lex_val (v := ?_) rfl rfl (fun w' hf => ?_) ?_
          rotate_left
          · go_simp
            try rfl
          try simp only [Act.put, List.setIfInBounds_toArray, List.set_cons_zero, List.set_cons_succ]
          refine lex_val (v := ?_) rfl rfl (fun w' hf => ?_) ?_
          rotate_left
          · go_simp
            try rfl
          try simp only [Act.put, List.setIfInBounds_toArray, List.set_cons_zero, List.set_cons_succ]
          refine lex_val (v := ?_) rfl rfl (fun w' hf => ?_) ?_
          rotate_left
          · have q := HCv.out w' (HR5.out.next hf.only.below0); go_simp
            try rfl
          try simp only [Act.put, List.setIfInBounds_toArray, List.set_cons_zero, List.set_cons_succ]
          refine lex_val (v := ?_) rfl rfl (fun w' hf => ?_) ?_
          rotate_left
          · go_simp
            try rfl
          try simp only [Act.put, List.setIfInBounds_toArray, List.set_cons_zero, List.set_cons_succ]
          refine lex_val (v := ?_) rfl rfl (fun w' hf => ?_) ?_
          rotate_left
          · go_simp
            try rfl
          try simp only [Act.put, List.setIfInBounds_toArray, List.set_cons_zero, List.set_cons_succ]
          --#aB7
          refine lex_made rfl rfl (fun w' hf => ⟨.slice (some ⟨w'.heap.size, 0, none⟩) 1 1, w'.alloc (.cells #[.int .i64 nn] 3), ?_, ⟨_, _, rfl⟩, oints_one rfl _ w5.heap.size _ hf.only.size rfl, (Below.refl _ _).alloc (Nat.le_refl _) _⟩) ?_
          · go_simp
          try simp only [Act.put, List.setIfInBounds_toArray, List.set_cons_zero, List.set_cons_succ]
          refine lex_letter (f := 10) (args := ?_) rfl rfl (fun w' hf => ?_) (fun w' hf => ?_) ?_
          rotate_left
          · have hg : IlF w5.heap.size [nn] (β 8) w' := hf.got 8 _ _ rfl (by kernel_rfl); rw [e8] at hg; (try rw [e8]); go_simp
            try rfl
          · have hg : IlF w5.heap.size [nn] (β 8) w' := hf.got 8 _ _ rfl (by kernel_rfl); rw [e8] at hg; (try rw [e8]); exact (HRc.out A8 c8 w' (OInts.reads hg)).mono (fun e w'' ⟨⟨v, h1, h2⟩, h4⟩ => ⟨_, h1, h2.form, own_base (obyt_own h2) hf.only.size, h4⟩)
          try simp only [Act.put, List.setIfInBounds_toArray, List.set_cons_zero, List.set_cons_succ]
          --#aB8
          refine lex_val (v := ?_) rfl rfl (fun w' hf => ?_) ?_
          rotate_left
          · have hg : BtF w5.heap.size lN (β 9) w' := hf.got 9 _ _ rfl (by kernel_rfl); rw [e9] at hg; rw [e9]; have q := HCw.out A9 c9 w' (OByt.reads hg); go_simp
            try rfl
          try simp only [Act.put, List.setIfInBounds_toArray, List.set_cons_zero, List.set_cons_succ]
          refine lex_val (v := ?_) rfl rfl (fun w' hf => ?_) ?_
          rotate_left
          · go_simp
            try rfl
          try simp only [Act.put, List.setIfInBounds_toArray, List.set_cons_zero, List.set_cons_succ]
          repeat (
            refine lex_val (v := ?_) rfl rfl (fun w' hf => ?_) ?_
            rotate_left
            · go_simp
              try rfl
            try simp only [Act.put, List.setIfInBounds_toArray, List.set_cons_zero, List.set_cons_succ])
          refine lex_nil fun w' he => ?_
          --#aB9
          rename World => w6
          have hb := he.only.below0
          have HW6 := Lib.hid (HW5.out.next hb)
          have HR6 := Lib.hid (HR5.out.next hb)
          clear he hb HW5 HR5 HX5 x0 x1 x2 x3 e8 e9 hβ
          have q6 := HCv.out w6 HR6.out
          (try simp only [Act.put, List.setIfInBounds_toArray, List.set_cons_zero, List.set_cons_succ])
          have HZ6 := Lib.hid (HW6.out.sent0 (by have := HK0.out; omega) (by have := HK0.out; omega) (by have := HK0.out; omega) (by omega) (by omega) 0 (bstr lN) (bstr lN) t1 rfl)
          obtain ⟨s0, s1⟩ : True ∧ True := ⟨trivial, trivial⟩
          have z0 := HW6.out.sent.cell 0
          have zf : w6.frozen? ⟨K + 1, 0, none⟩ = false := HW6.out.sent.frozen 0
          have HTs : Hid (bstr lN = bstr (numbP eight (nKey 16 ca))) := Lib.hid (by rw [HlN.out]; exact congrArg (fun z => bstr (numbP eight z)) HNk.out.symm)
          --#aB10
          go_wp2_with fail
          go_roundw
          case rel => exact ⟨1, bstr lN, t1, by omega, by go_num, fun _ => ⟨HOk.out, HTs.out⟩, fun h => absurd h (by omega), HZ6.out⟩
          case measure => simp [intOf]
        · have g5 : ((0 : Int) < numK ca) = False := eq_false hk2
          go_wp2_with fail
          go_ret
          exact ⟨rfl, HWb.out.bel⟩
      · have g3 : (ka == 16) = false := beq_eq_false_iff_ne.2 h16
        go_wp2_with fail
        go_ret
        exact ⟨rfl, HWb.out.bel⟩
    · --#6
      clear hp1
      have y0 := HW.out.ls.cell 4; have y1 := HW.out.ls.cell 5; have y2 := HW.out.ls.cell 6; have y3 := HW.out.ls.cell 7
      have hal : Below wr.heap.size wr (wr.alloc (.cells #[.int .i64 kb, .int .u8 (cb : Int), .bool sb, .bool tb] 38)) := (Below.refl _ _).alloc (Nat.le_refl _) _
      have HWa := Lib.hid (HW.out.next hal)
      have HXa := Lib.hid (Blk.new wr 38 #[.int .i64 kb, .int .u8 (cb : Int), .bool sb, .bool tb])
      have HGt : Hid (w.heap.size ≤ wr.heap.size ∧ w.heap.size < wr.heap.size ∧ w.heap.size + 1 < wr.heap.size ∧ K < wr.heap.size ∧ K + 1 < wr.heap.size ∧ K + 2 < wr.heap.size) := Lib.hid ⟨HW.out.bel.size, HW.out.ba.lt, HW.out.bb.lt, HW.out.key.1.lt, HW.out.sent.lt, HW.out.ls.lt⟩
      have HNm := Lib.hid (fun W => refNum_any cb HCb.out W)
      clear hal
      --#b1
      go_upto_region 8 with fail
      generalize wr.alloc (.cells #[.int .i64 kb, .int .u8 (cb : Int), .bool sb, .bool tb] 38) = wa at *
      generalize wr.heap.size = gt at *
      clear y0 y1 y2 y3 HW
      have x0 := HXa.out.cell 0; have x1 := HXa.out.cell 1; have x2 := HXa.out.cell 2; have x3 := HXa.out.cell 3
      --#b2
      have hwc : IntKind.i64.wrap (cb : Int) = (cb : Int) := IntWalk.i64_in _ (by have := HCb.out; omega)
      go_wp2_with fail
      --#b2b
      refine (HNm.out wa).mono ?_
      rintro e wb ⟨rfl, hb⟩
      have HWb := Lib.hid (HWa.out.next hb)
      have HXb := Lib.hid (HXa.out.next hb)
      clear hb HWa HXa HNm x0 x1 x2 x3
      have x0 := HXb.out.cell 0; have x1 := HXb.out.cell 1; have x2 := HXb.out.cell 2; have x3 := HXb.out.cell 3
      go_upto_region 9 with fail
      --#b3
      by_cases h9 : kb < 9
      · have g1 : ((9 : Int) ≤ kb) = False := eq_false (by omega)
        have g3 : (kb == 16) = false := beq_eq_false_iff_ne.2 (by omega)
        go_wp2_with fail
        go_ret
        exact ⟨rfl, HWb.out.bel⟩
      have g1 : ((9 : Int) ≤ kb) = True := eq_true (by omega)
      by_cases h14 : kb ≤ 14
      · have g2 : (kb ≤ 14) = True := eq_true h14
        have g4 : (kb != 16) = true := bne_iff_ne.2 (by omega)
        --#bA0
        have hN : 1 ≤ (kb - 8) ∧ (kb - 8) ≤ 34 := by omega
        have HFd := Lib.hid (numb_feed hN eight)
        have HLn := Lib.hid (rep_len 4 ⟨#[126]⟩ ⟨#[]⟩ [(kb - 8)] eight)
        have HLt := Lib.hid (rep_lt 4 ⟨#[126]⟩ ⟨#[]⟩ [(kb - 8)] eight)
        have HRc : Hid (∀ A' c' W, RInts W A' [(kb - 8)] → Calls Tryz.prog 10 #[.bool eight, .string ⟨#[126]⟩, .slice A' 1 c'] W fun e w' => Gives W w' e (numbP eight (kb - 8)) ∧ Below W.heap.size W w') := Lib.hid (fun A' c' W h => refCsi_any eight ⟨#[126]⟩ A' c' [(kb - 8)] (by unfold maxLen; simp) (by decide) W h)
        have HEn : Hid (∀ W, KEnv W → KeyB W K noT false → Calls Tryz.prog 17 #[.agg #[.int .i64 kb, .int .u8 0, .bool false, .bool tb], .int .u32 0, .int .i64 2, .bool eight, .pointer (some ⟨K, 0, none⟩)] W fun e w' => GivB W.heap.size w' e (numbP eight (kb - 8)) ∧ Below W.heap.size W w') := Lib.hid (fun W h1 h2 => by
          have q := enc_any kb 0 false tb 0 2 eight K noT false (by decide) (by decide) W (h1.key h2)
          rw [enc_A (by omega)] at q
          exact q)
        have HOw : Hid (∀ W, Calls Tryz.prog 18 #[.agg #[.int .i64 kb, .int .u8 0, .bool false, .bool tb]] W fun e w' => e = .returned (.agg #[.int .i64 kb, .int .u8 0, .bool false, .bool tb]) ∧ Below W.heap.size W w') := Lib.hid (fun W => ownK_any kb 0 false tb W)
        have HNk : Hid (nKey kb cb = (kb - 8)) := Lib.hid (by unfold nKey; rw [if_neg (by omega)])
        have HOk : Hid (okKey kb cb) := Lib.hid ((.inl (by omega)))
        have hw8 : IntKind.i64.wrap (kb - 8) = kb - 8 := IntWalk.i64_in _ (by omega)
        obtain ⟨lN, hlN⟩ : ∃ lN, lN = numbP eight (kb - 8) := ⟨_, rfl⟩
        have HlN := Lib.hid hlN
        change Hid ((numbP eight (kb - 8)).length ≤ 4290) at HLn
        change Hid (∀ n ∈ numbP eight (kb - 8), n < 256) at HLt
        rw [← hlN] at HFd HRc HEn HLn HLt
        clear hlN hN
        have f1 : wb.frozen? ⟨gt, 1, none⟩ = false := HXb.out.frozen 1
        have f2 : (wb.setCell ⟨gt, 1, none⟩ (.int .u8 0)).frozen? ⟨gt, 2, none⟩ = false := (HXb.out.set_ 1 _).frozen 2
        --#bA1
        go_upto_region 12 with fail
        go_upto_region 13 with fail
        go_upto_region 14 with fail
        have HWq := Lib.hid ((HWb.out.put (g := gt) (i := 1) HGt.out.1 (by have := HGt.out; omega) (by have := HGt.out; omega) (by have := HGt.out; omega) (by have := HGt.out; omega) (by have := HGt.out; omega) (.int .u8 0)).put (g := gt) (i := 2) HGt.out.1 (by have := HGt.out; omega) (by have := HGt.out; omega) (by have := HGt.out; omega) (by have := HGt.out; omega) (by have := HGt.out; omega) (.bool false))
        have HXq := Lib.hid ((HXb.out.set_ 1 (.int .u8 0)).set_ 2 (.bool false))
        generalize (wb.setCell ⟨gt, 1, none⟩ (.int .u8 0)).setCell ⟨gt, 2, none⟩ (.bool false) = wq at *
        clear HWb HXb x0 x1 x2 x3 f2 f1
        replace HXq : Hid (Blk wq gt 38 #[.int .i64 kb, .int .u8 0, .bool false, .bool tb]) := HXq
        have x0 := HXq.out.cell 0; have x1 := HXq.out.cell 1; have x2 := HXq.out.cell 2; have x3 := HXq.out.cell 3
        --#bA2
        go_wp2_with fail
        refine (HOw.out wq).mono ?_
        rintro e wr2 ⟨rfl, hb⟩
        have HW3 := Lib.hid (HWq.out.next hb)
        have HX3 := Lib.hid (HXq.out.next hb)
        have HE3 := Lib.hid (HEn.out wr2 (HE0.out.next HW3.out.bel) HW3.out.key)
        clear hb HWq HXq HOw HEn x0 x1 x2 x3
        --#bA3
        go_wp2_with fail
        refine HE3.out.mono ?_
        rintro e w4 ⟨⟨A4, c4, rfl, hr4, _⟩, hb⟩
        have HW4 := Lib.hid (HW3.out.next hb)
        have HX4 := Lib.hid (HX3.out.next hb)
        have HR4 := Lib.hid hr4
        have HS4 := Lib.hid (split_any A4 c4 lN HLt.out (by have := HLn.out; omega) w4 hr4)
        rw [HFd.out] at HS4
        dsimp only at HS4
        clear hb hr4 HE3 HW3 HX3
        --#bA4
        go_wp2_with fail
        refine HS4.out.mono ?_
        rintro e w5 ⟨v5, rfl, ho5, hb⟩
        obtain ⟨A5, c5, rfl, _⟩ := ho5.reads
        have HW5 := Lib.hid (HW4.out.next hb)
        have HX5 := Lib.hid (HX4.out.next hb)
        have HR5 := Lib.hid (HR4.out.next hb)
        clear hb ho5 HS4 HW4 HX4 HR4 HFd
        have x0 := HX5.out.cell 0; have x1 := HX5.out.cell 1; have x2 := HX5.out.cell 2; have x3 := HX5.out.cell 3
        have HCv := Lib.hid (fun W (h : RByt W A4 lN) => conv_by h c4)
        have HCw := Lib.hid (fun A' n W (h : RByt W A' lN) => conv_by (A := A') h n)
        --#bA5
        go_upto_region 19 with fail

        refine wp_region_mix_lit (by kernel_rfl) [(8, .letter (IlP 1) (IlF w5.heap.size [(kb - 8)])), (9, .letter (BtP lN.length) (BtF w5.heap.size lN))] (by kernel_rfl) (by kernel_rfl) (by kernel_rfl) (by rfl) (by simp [apartK] <;> omega) (by simp [startK]) (by simp only [List.forall_mem_cons, stabK]; exact ⟨ilV_stab _ _ _ (by simp [boxes, Kind.boxed]), btV_stab _ _ _ (by simp [boxes, Kind.boxed]), by simp⟩) (⟨fun i => if i = 9 then .slice none lN.length 0 else .slice none 1 0, by simp only [List.forall_mem_cons, okK]; exact ⟨⟨none, 0, rfl⟩, ⟨none, 0, rfl⟩, by simp⟩⟩) (fun β hβ => ?_)
        obtain ⟨A8, c8, e8⟩ := (hβ 8 : IlP 1 (β 8))
        obtain ⟨A9, c9, e9⟩ := (hβ 9 : BtP lN.length (β 9))
        --#bA6
        refine lex_val (v := ?_) rfl rfl (fun w' hf => ?_) ?_
        rotate_left
        · go_simp
          try rfl
        try simp only [Act.put, List.setIfInBounds_toArray, List.set_cons_zero, List.set_cons_succ]
        refine lex_val (v := ?_) rfl rfl (fun w' hf => ?_) ?_
        rotate_left
        · go_simp
          try rfl
        try simp only [Act.put, List.setIfInBounds_toArray, List.set_cons_zero, List.set_cons_succ]
        refine lex_val (v := ?_) rfl rfl (fun w' hf => ?_) ?_
        rotate_left
        · go_simp
          try rfl
        try simp only [Act.put, List.setIfInBounds_toArray, List.set_cons_zero, List.set_cons_succ]
        refine lex_val (v := ?_) rfl rfl (fun w' hf => ?_) ?_
        rotate_left
        · go_simp
          try rfl
        try simp only [Act.put, List.setIfInBounds_toArray, List.set_cons_zero, List.set_cons_succ]
        refine lex_val (v := ?_) rfl rfl (fun w' hf => ?_) ?_
        rotate_left
        · go_simp
          try rfl
        try simp only [Act.put, List.setIfInBounds_toArray, List.set_cons_zero, List.set_cons_succ]
        refine lex_val (v := ?_) rfl rfl (fun w' hf => ?_) ?_
        rotate_left
        · have q := HCv.out w' (HR5.out.next hf.only.below0); go_simp
          try rfl
        try simp only [Act.put, List.setIfInBounds_toArray, List.set_cons_zero, List.set_cons_succ]
        refine lex_val (v := ?_) rfl rfl (fun w' hf => ?_) ?_
        rotate_left
        · go_simp
          try rfl
        try simp only [Act.put, List.setIfInBounds_toArray, List.set_cons_zero, List.set_cons_succ]
        refine lex_val (v := ?_) rfl rfl (fun w' hf => ?_) ?_
        rotate_left
        · go_simp
          try rfl
        try simp only [Act.put, List.setIfInBounds_toArray, List.set_cons_zero, List.set_cons_succ]
        --#bA7
        refine lex_made rfl rfl (fun w' hf => ⟨.slice (some ⟨w'.heap.size, 0, none⟩) 1 1, w'.alloc (.cells #[.int .i64 (kb - 8)] 3), ?_, ⟨_, _, rfl⟩, oints_one rfl _ w5.heap.size _ hf.only.size rfl, (Below.refl _ _).alloc (Nat.le_refl _) _⟩) ?_
        · go_simp
        try simp only [Act.put, List.setIfInBounds_toArray, List.set_cons_zero, List.set_cons_succ]
        refine lex_letter (f := 10) (args := ?_) rfl rfl (fun w' hf => ?_) (fun w' hf => ?_) ?_
        rotate_left
        · have hg : IlF w5.heap.size [(kb - 8)] (β 8) w' := hf.got 8 _ _ rfl (by kernel_rfl); rw [e8] at hg; (try rw [e8]); go_simp
          try rfl
        · have hg : IlF w5.heap.size [(kb - 8)] (β 8) w' := hf.got 8 _ _ rfl (by kernel_rfl); rw [e8] at hg; (try rw [e8]); exact (HRc.out A8 c8 w' (OInts.reads hg)).mono (fun e w'' ⟨⟨v, h1, h2⟩, h4⟩ => ⟨_, h1, h2.form, own_base (obyt_own h2) hf.only.size, h4⟩)
        try simp only [Act.put, List.setIfInBounds_toArray, List.set_cons_zero, List.set_cons_succ]
        --#bA8
        refine lex_val (v := ?_) rfl rfl (fun w' hf => ?_) ?_
        rotate_left
        · have hg : BtF w5.heap.size lN (β 9) w' := hf.got 9 _ _ rfl (by kernel_rfl); rw [e9] at hg; rw [e9]; have q := HCw.out A9 c9 w' (OByt.reads hg); go_simp
          try rfl
        try simp only [Act.put, List.setIfInBounds_toArray, List.set_cons_zero, List.set_cons_succ]
        refine lex_val (v := ?_) rfl rfl (fun w' hf => ?_) ?_
        rotate_left
        · go_simp
          try rfl
        try simp only [Act.put, List.setIfInBounds_toArray, List.set_cons_zero, List.set_cons_succ]
        repeat (
          refine lex_val (v := ?_) rfl rfl (fun w' hf => ?_) ?_
          rotate_left
          · go_simp
            try rfl
          try simp only [Act.put, List.setIfInBounds_toArray, List.set_cons_zero, List.set_cons_succ])
        refine lex_nil fun w' he => ?_
        --#bA9
        rename World => w6
        have hb := he.only.below0
        have HW6 := Lib.hid (HW5.out.next hb)
        have HR6 := Lib.hid (HR5.out.next hb)
        clear he hb HW5 HR5 HX5 x0 x1 x2 x3 e8 e9 hβ
        have q6 := HCv.out w6 HR6.out
        (try simp only [Act.put, List.setIfInBounds_toArray, List.set_cons_zero, List.set_cons_succ])
        have HZ6 := Lib.hid (HW6.out.sent0 (by have := HK0.out; omega) (by have := HK0.out; omega) (by have := HK0.out; omega) (by omega) (by omega) 1 (bstr lN) t0 (bstr lN) rfl)
        obtain ⟨s0, s1⟩ : True ∧ True := ⟨trivial, trivial⟩
        have z0 := HW6.out.sent.cell 1
        have zf : w6.frozen? ⟨K + 1, 1, none⟩ = false := HW6.out.sent.frozen 1
        have HTs : Hid (bstr lN = bstr (numbP eight (nKey kb cb))) := Lib.hid (by rw [HlN.out]; exact congrArg (fun z => bstr (numbP eight z)) HNk.out.symm)
        --#bA10
        go_wp2_with fail
        go_roundw
        case rel => exact ⟨2, t0, bstr lN, by omega, by go_num, fun _ => hp0 (by omega), fun _ => ⟨HOk.out, HTs.out⟩, HZ6.out⟩
        case measure => simp [intOf]
      have g2 : (kb ≤ 14) = False := eq_false h14
      by_cases h16 : kb = 16
      · subst h16
        clear h9 h14 g1 g2
        by_cases hk2 : 0 < numK cb
        · --#bB0
          have hN : 1 ≤ (numK cb) ∧ (numK cb) ≤ 34 := by have := numK_low cb hk2; have := numK_bounds cb; omega
          have HFd := Lib.hid (numb_feed hN eight)
          have HLn := Lib.hid (rep_len 4 ⟨#[126]⟩ ⟨#[]⟩ [(numK cb)] eight)
          have HLt := Lib.hid (rep_lt 4 ⟨#[126]⟩ ⟨#[]⟩ [(numK cb)] eight)
          have HRc : Hid (∀ A' c' W, RInts W A' [(numK cb)] → Calls Tryz.prog 10 #[.bool eight, .string ⟨#[126]⟩, .slice A' 1 c'] W fun e w' => Gives W w' e (numbP eight (numK cb)) ∧ Below W.heap.size W w') := Lib.hid (fun A' c' W h => refCsi_any eight ⟨#[126]⟩ A' c' [(numK cb)] (by unfold maxLen; simp) (by decide) W h)
          have HEn : Hid (∀ W, KEnv W → KeyB W K noT false → Calls Tryz.prog 17 #[.agg #[.int .i64 16, .int .u8 (cb : Int), .bool false, .bool tb], .int .u32 0, .int .i64 2, .bool eight, .pointer (some ⟨K, 0, none⟩)] W fun e w' => GivB W.heap.size w' e (numbP eight (numK cb)) ∧ Below W.heap.size W w') := Lib.hid (fun W h1 h2 => by
            have q := enc_any 16 cb false tb 0 2 eight K noT false (by exact HCb.out) (by decide) W (h1.key h2)
            rw [enc_B hk2] at q
            exact q)
          have HOw : Hid (∀ W, Calls Tryz.prog 18 #[.agg #[.int .i64 16, .int .u8 (cb : Int), .bool false, .bool tb]] W fun e w' => e = .returned (.agg #[.int .i64 16, .int .u8 (cb : Int), .bool false, .bool tb]) ∧ Below W.heap.size W w') := Lib.hid (fun W => ownK_any 16 cb false tb W)
          have HNk : Hid (nKey 16 cb = (numK cb)) := Lib.hid (by unfold nKey; rw [if_pos rfl])
          have HOk : Hid (okKey 16 cb) := Lib.hid ((.inr ⟨rfl, hk2⟩))
          have hk2' : ((0 : Int) < numK cb) = True := eq_true hk2
          obtain ⟨lN, hlN⟩ : ∃ lN, lN = numbP eight (numK cb) := ⟨_, rfl⟩
          have HlN := Lib.hid hlN
          change Hid ((numbP eight (numK cb)).length ≤ 4290) at HLn
          change Hid (∀ n ∈ numbP eight (numK cb), n < 256) at HLt
          rw [← hlN] at HFd HRc HEn HLn HLt
          clear hlN hN

          have f2 : wb.frozen? ⟨gt, 2, none⟩ = false := HXb.out.frozen 2
          --#bB1
          go_upto_region 13 with fail

          go_upto_region 14 with fail
          have HWq := Lib.hid ((HWb.out).put (g := gt) (i := 2) HGt.out.1 (by have := HGt.out; omega) (by have := HGt.out; omega) (by have := HGt.out; omega) (by have := HGt.out; omega) (by have := HGt.out; omega) (.bool false))
          have HXq := Lib.hid ((HXb.out).set_ 2 (.bool false))
          generalize wb.setCell ⟨gt, 2, none⟩ (.bool false) = wq at *
          clear HWb HXb x0 x1 x2 x3 f2 
          replace HXq : Hid (Blk wq gt 38 #[.int .i64 16, .int .u8 (cb : Int), .bool false, .bool tb]) := HXq
          have x0 := HXq.out.cell 0; have x1 := HXq.out.cell 1; have x2 := HXq.out.cell 2; have x3 := HXq.out.cell 3
          --#bB2
          go_wp2_with fail
          refine (HOw.out wq).mono ?_
          rintro e wr2 ⟨rfl, hb⟩
          have HW3 := Lib.hid (HWq.out.next hb)
          have HX3 := Lib.hid (HXq.out.next hb)
          have HE3 := Lib.hid (HEn.out wr2 (HE0.out.next HW3.out.bel) HW3.out.key)
          clear hb HWq HXq HOw HEn x0 x1 x2 x3
          --#bB3
          go_wp2_with fail
          refine HE3.out.mono ?_
          rintro e w4 ⟨⟨A4, c4, rfl, hr4, _⟩, hb⟩
          have HW4 := Lib.hid (HW3.out.next hb)
          have HX4 := Lib.hid (HX3.out.next hb)
          have HR4 := Lib.hid hr4
          have HS4 := Lib.hid (split_any A4 c4 lN HLt.out (by have := HLn.out; omega) w4 hr4)
          rw [HFd.out] at HS4
          dsimp only at HS4
          clear hb hr4 HE3 HW3 HX3
          --#bB4
          go_wp2_with fail
          refine HS4.out.mono ?_
          rintro e w5 ⟨v5, rfl, ho5, hb⟩
          obtain ⟨A5, c5, rfl, _⟩ := ho5.reads
          have HW5 := Lib.hid (HW4.out.next hb)
          have HX5 := Lib.hid (HX4.out.next hb)
          have HR5 := Lib.hid (HR4.out.next hb)
          clear hb ho5 HS4 HW4 HX4 HR4 HFd
          have x0 := HX5.out.cell 0; have x1 := HX5.out.cell 1; have x2 := HX5.out.cell 2; have x3 := HX5.out.cell 3
          have HCv := Lib.hid (fun W (h : RByt W A4 lN) => conv_by h c4)
          have HCw := Lib.hid (fun A' n W (h : RByt W A' lN) => conv_by (A := A') h n)
          --#bB5
          go_upto_region 19 with fail
          generalize numK cb = nn at *
          refine wp_region_mix_lit (by kernel_rfl) [(8, .letter (IlP 1) (IlF w5.heap.size [nn])), (9, .letter (BtP lN.length) (BtF w5.heap.size lN))] (by kernel_rfl) (by kernel_rfl) (by kernel_rfl) (by rfl) (by simp [apartK] <;> omega) (by simp [startK]) (by simp only [List.forall_mem_cons, stabK]; exact ⟨ilV_stab _ _ _ (by simp [boxes, Kind.boxed]), btV_stab _ _ _ (by simp [boxes, Kind.boxed]), by simp⟩) (⟨fun i => if i = 9 then .slice none lN.length 0 else .slice none 1 0, by simp only [List.forall_mem_cons, okK]; exact ⟨⟨none, 0, rfl⟩, ⟨none, 0, rfl⟩, by simp⟩⟩) (fun β hβ => ?_)
          obtain ⟨A8, c8, e8⟩ := (hβ 8 : IlP 1 (β 8))
          obtain ⟨A9, c9, e9⟩ := (hβ 9 : BtP lN.length (β 9))
          --#bB6
          refine lex_val (v := ?_) rfl rfl (fun w' hf => ?_) ?_
          rotate_left
          · go_simp
            try rfl
          try simp only [Act.put, List.setIfInBounds_toArray, List.set_cons_zero, List.set_cons_succ]
          refine lex_val (v := ?_) rfl rfl (fun w' hf => ?_) ?_
          rotate_left
          · go_simp
            try rfl
          try simp only [Act.put, List.setIfInBounds_toArray, List.set_cons_zero, List.set_cons_succ]
          refine lex_val (v := ?_) rfl rfl (fun w' hf => ?_) ?_
          rotate_left
          · go_simp
            try rfl
          try simp only [Act.put, List.setIfInBounds_toArray, List.set_cons_zero, List.set_cons_succ]
          refine lex_val (v := ?_) rfl rfl (fun w' hf => ?_) ?_
          rotate_left
          · go_simp
            try rfl
          try simp only [Act.put, List.setIfInBounds_toArray, List.set_cons_zero, List.set_cons_succ]
          refine lex_val (v := ?_) rfl rfl (fun w' hf => ?_) ?_
          rotate_left
          · go_simp
            try rfl
          try simp only [Act.put, List.setIfInBounds_toArray, List.set_cons_zero, List.set_cons_succ]
          refine lex_val (v := ?_) rfl rfl (fun w' hf => ?_) ?_
          rotate_left
          · have q := HCv.out w' (HR5.out.next hf.only.below0); go_simp
            try rfl
          try simp only [Act.put, List.setIfInBounds_toArray, List.set_cons_zero, List.set_cons_succ]
          refine lex_val (v := ?_) rfl rfl (fun w' hf => ?_) ?_
          rotate_left
          · go_simp
            try rfl
          try simp only [Act.put, List.setIfInBounds_toArray, List.set_cons_zero, List.set_cons_succ]
          refine lex_val (v := ?_) rfl rfl (fun w' hf => ?_) ?_
          rotate_left
          · go_simp
            try rfl
          try simp only [Act.put, List.setIfInBounds_toArray, List.set_cons_zero, List.set_cons_succ]
          --#bB7
          refine lex_made rfl rfl (fun w' hf => ⟨.slice (some ⟨w'.heap.size, 0, none⟩) 1 1, w'.alloc (.cells #[.int .i64 nn] 3), ?_, ⟨_, _, rfl⟩, oints_one rfl _ w5.heap.size _ hf.only.size rfl, (Below.refl _ _).alloc (Nat.le_refl _) _⟩) ?_
          · go_simp
          try simp only [Act.put, List.setIfInBounds_toArray, List.set_cons_zero, List.set_cons_succ]
          refine lex_letter (f := 10) (args := ?_) rfl rfl (fun w' hf => ?_) (fun w' hf => ?_) ?_
          rotate_left
          · have hg : IlF w5.heap.size [nn] (β 8) w' := hf.got 8 _ _ rfl (by kernel_rfl); rw [e8] at hg; (try rw [e8]); go_simp
            try rfl
          · have hg : IlF w5.heap.size [nn] (β 8) w' := hf.got 8 _ _ rfl (by kernel_rfl); rw [e8] at hg; (try rw [e8]); exact (HRc.out A8 c8 w' (OInts.reads hg)).mono (fun e w'' ⟨⟨v, h1, h2⟩, h4⟩ => ⟨_, h1, h2.form, own_base (obyt_own h2) hf.only.size, h4⟩)
          try simp only [Act.put, List.setIfInBounds_toArray, List.set_cons_zero, List.set_cons_succ]
          --#bB8
          refine lex_val (v := ?_) rfl rfl (fun w' hf => ?_) ?_
          rotate_left
          · have hg : BtF w5.heap.size lN (β 9) w' := hf.got 9 _ _ rfl (by kernel_rfl); rw [e9] at hg; rw [e9]; have q := HCw.out A9 c9 w' (OByt.reads hg); go_simp
            try rfl
          try simp only [Act.put, List.setIfInBounds_toArray, List.set_cons_zero, List.set_cons_succ]
          refine lex_val (v := ?_) rfl rfl (fun w' hf => ?_) ?_
          rotate_left
          · go_simp
            try rfl
          try simp only [Act.put, List.setIfInBounds_toArray, List.set_cons_zero, List.set_cons_succ]
          repeat (
            refine lex_val (v := ?_) rfl rfl (fun w' hf => ?_) ?_
            rotate_left
            · go_simp
              try rfl
            try simp only [Act.put, List.setIfInBounds_toArray, List.set_cons_zero, List.set_cons_succ])
          refine lex_nil fun w' he => ?_
          --#bB9
          rename World => w6
          have hb := he.only.below0
          have HW6 := Lib.hid (HW5.out.next hb)
          have HR6 := Lib.hid (HR5.out.next hb)
          clear he hb HW5 HR5 HX5 x0 x1 x2 x3 e8 e9 hβ
          have q6 := HCv.out w6 HR6.out
          (try simp only [Act.put, List.setIfInBounds_toArray, List.set_cons_zero, List.set_cons_succ])
          have HZ6 := Lib.hid (HW6.out.sent0 (by have := HK0.out; omega) (by have := HK0.out; omega) (by have := HK0.out; omega) (by omega) (by omega) 1 (bstr lN) t0 (bstr lN) rfl)
          obtain ⟨s0, s1⟩ : True ∧ True := ⟨trivial, trivial⟩
          have z0 := HW6.out.sent.cell 1
          have zf : w6.frozen? ⟨K + 1, 1, none⟩ = false := HW6.out.sent.frozen 1
          have HTs : Hid (bstr lN = bstr (numbP eight (nKey 16 cb))) := Lib.hid (by rw [HlN.out]; exact congrArg (fun z => bstr (numbP eight z)) HNk.out.symm)
          --#bB10
          go_wp2_with fail
          go_roundw
          case rel => exact ⟨2, t0, bstr lN, by omega, by go_num, fun _ => hp0 (by omega), fun _ => ⟨HOk.out, HTs.out⟩, HZ6.out⟩
          case measure => simp [intOf]
        · have g5 : ((0 : Int) < numK cb) = False := eq_false hk2
          go_wp2_with fail
          go_ret
          exact ⟨rfl, HWb.out.bel⟩
      · have g3 : (kb == 16) = false := beq_eq_false_iff_ne.2 h16
        go_wp2_with fail
        go_ret
        exact ⟨rfl, HWb.out.bel⟩
    · --#7
      obtain ⟨oa, e0⟩ := hp0 (by omega)
      obtain ⟨ob, e1⟩ := hp1 (by omega)
      have hin := nKey_inj oa ob
      have ba := nKey_bounds oa
      have bb := nKey_bounds ob
      have x0 := HW.out.ba.cell 0; have x1 := HW.out.ba.cell 1; have y0 := HW.out.bb.cell 0; have y1 := HW.out.bb.cell 1
      have z0 := HW.out.sent.cell 0; have z1 := HW.out.sent.cell 1
      have HIn : Hid (t0 = t1 ↔ ka = kb ∧ (ka ≠ 16 ∨ ca = cb)) := Lib.hid (by
        rw [e0, e1, ← hin]
        exact ⟨fun h => numb_inj ba bb eight h, fun h => by rw [h]⟩)
      clear hin ba bb oa ob e0 e1 hp0 hp1
      by_cases p1 : ka = kb
      · have g1 : (ka == kb) = true := beq_iff_eq.2 p1
        by_cases p2 : ka = 16
        · have g2 : (ka != 16) = false := by rw [p2]; rfl
          by_cases p3 : ca = cb
          · have g3 : ((ca : Int) == (cb : Int)) = true := beq_iff_eq.2 (by omega)
            have g4 : (t0.toList == t1.toList) = true := (strE_beq t0 t1).trans (decide_eq_true (HIn.out.2 ⟨p1, .inr p3⟩))
            clear p1 p2 p3
            go_wp2_with fail
            go_ret
            exact ⟨rfl, HW.out.bel⟩
          · have g3 : ((ca : Int) == (cb : Int)) = false := beq_eq_false_iff_ne.2 (by omega)
            have g4 : (t0.toList == t1.toList) = false := (strE_beq t0 t1).trans (decide_eq_false (fun h => by rcases (HIn.out.1 h).2 with q | q; exact q p2; exact p3 q))
            clear p1 p2 p3
            go_wp2_with fail
            go_ret
            exact ⟨rfl, HW.out.bel⟩
        · have g2 : (ka != 16) = true := bne_iff_ne.2 p2
          have g4 : (t0.toList == t1.toList) = true := (strE_beq t0 t1).trans (decide_eq_true (HIn.out.2 ⟨p1, .inl p2⟩))
          clear p1 p2
          go_wp2_with fail
          go_ret
          exact ⟨rfl, HW.out.bel⟩
      · have g1 : (ka == kb) = false := beq_eq_false_iff_ne.2 p1
        have g4 : (t0.toList == t1.toList) = false := (strE_beq t0 t1).trans (decide_eq_false (fun h => p1 (HIn.out.1 h).1))
        clear p1
        go_wp2_with fail
        go_ret
        exact ⟨rfl, HW.out.bel⟩

set_option maxRecDepth 100000 in
/-- What the walk gives, for every argument and every world that holds the table. -/
theorem contract (H : Type) (enc : TypeId × Value → H) (W : World) (base : Nat) (args : Array Value) (ds gs : List (DataW H)) (before : List MemPlace)
    (hval : ∀ (j : Nat) t v, Tryz.f4.params[j]? = some t → args[j]? = some v → Value.okWide Tryz.prog W .any base t v)
    (hW : DataW.Whole enc Tryz.prog Tryz.f4.params.toList Rows.keysApartSpec.vars false W args.toList ds gs before) (hL : laidMetH Tryz.prog Rows.keysApartRow.laid W)
    (hreach : (DataW.weightsEach Tryz.prog (Tryz.f4.params.toList ++ []) (ds ++ gs)).all (· ≤ reachBytes) = true) :
    Calls Tryz.prog 4 args W fun e W' => ∃ v, e = .returned v ∧ Rows.keysApartSpec.post enc Tryz.prog Tryz.f4 false true false false W args v W' := by
  have hW' := hW
  have ht := envE hL
  have hlts : ∀ x ∈ before, x.block < W.heap.size := fun x hx => hW'.lt x hx
  obtain ⟨p, q, hA0, hV, rfl, hfz, hnd⟩ := hW
  have hA : DataW.TrodAll enc Tryz.prog W 0 (fun _ => true) true Tryz.f4.params.toList args.toList ds p := hA0
  rw [Tryz.params4] at hA hval hreach
  obtain ⟨v0, vs0, d0, ds0, pp0, qq0, hargs, rfl, rfl, h0, rr0⟩ := trodAll_cons hA
  obtain ⟨v1, vs1, d1, ds1, pp1, qq1, rfl, rfl, rfl, h1, rr1⟩ := trodAll_cons rr0
  obtain ⟨v2, vs2, d2, ds2, pp2, qq2, rfl, rfl, rfl, h2, rr2⟩ := trodAll_cons rr1
  obtain ⟨rfl, rfl, rfl⟩ := trodAll_nil rr2
  obtain rfl : args = #[v0, v1, v2] := by cases args; simp_all
  obtain ⟨rfl, rfl⟩ := trodVars_none hV
  obtain ⟨k0, c0, sh0, ct0, hc0, rfl⟩ := event_in (hval 0 38 v0 rfl rfl) h0
  obtain ⟨k1, c1, sh1, ct1, hc1, rfl⟩ := event_in (hval 1 38 v1 rfl rfl) h1
  obtain ⟨a2, rfl, rfl, rfl⟩ := open_bool Tryz.underlying4 (hval 2 4 v2 rfl rfl) h2
  clear hA0
  refine (walk k0 c0 sh0 ct0 hc0 k1 c1 sh1 ct1 hc1 a2 W ht).mono fun e W' ⟨he, hb⟩ => ?_
  subst he
  exact ⟨_, rfl, post_law laidOut (by kernel_rfl) (by kernel_rfl) rfl hW' rfl hb⟩

set_option maxRecDepth 100000 in
theorem laid_met (os : Os) : laidMet Tryz.prog Rows.keysApartRow.laid ((laidWorldE os).forCall (fun _ _ => 0) ⟨#[], #[Value.agg #[.int .i64 0, .int .u8 0, .bool false, .bool false], Value.agg #[.int .i64 0, .int .u8 0, .bool false, .bool false], Value.bool false], []⟩).memory :=
  laidMet_of_run' 8 (by kernel_rfl) (by kernel_rfl)
set_option maxRecDepth 100000 in
theorem reads (os : Os) {H : Type} (enc : TypeId × Value → H) : ∃ places, DataW.whole enc Tryz.prog ((laidWorldE os).forCall (fun _ _ => 0) ⟨#[], #[Value.agg #[.int .i64 0, .int .u8 0, .bool false, .bool false], Value.agg #[.int .i64 0, .int .u8 0, .bool false, .bool false], Value.bool false], []⟩).memory Tryz.f4.params.toList Rows.keysApartSpec.vars false (#[Value.agg #[.int .i64 0, .int .u8 0, .bool false, .bool false], Value.agg #[.int .i64 0, .int .u8 0, .bool false, .bool false], Value.bool false] : Array Value).toList 8 = some ([.agg [.lit (.int .i64 0), .lit (.int .u8 0), .lit (.bool false), .lit (.bool false)], .agg [.lit (.int .i64 0), .lit (.int .u8 0), .lit (.bool false), .lit (.bool false)], .lit (.bool false)], [], places) :=
  ⟨[], by kernel_rfl⟩

set_option maxRecDepth 100000 in
theorem lifted (os : Os) (started : os.Started) (H : Type) (enc : TypeId × Value → H) (F : Stop.Interp) :
    ReturnsInHanded {} Tryz.checked os 4 .any ((OpenSpec.ofChange Rows.keysApartSpec).preRow enc Tryz.prog Tryz.f4 Rows.keysApartRow.domain false Rows.keysApartRow.laid) (((OpenSpec.ofChange Rows.keysApartSpec).at F).post enc Tryz.prog Tryz.f4 false true false false) := by
  obtain ⟨places, hx⟩ := reads os enc
  refine returnsInHanded_of_row (C := Tryz.checked) (s := OpenSpec.ofChange Rows.keysApartSpec) own started (by kernel_rfl) Tryz.func4
    (witness_row_at (enc := enc) (C := Tryz.checked) false (laidWorldE os) #[Value.agg #[.int .i64 0, .int .u8 0, .bool false, .bool false], Value.agg #[.int .i64 0, .int .u8 0, .bool false, .bool false], Value.bool false] rfl (by kernel_rfl) (by kernel_rfl) (by kernel_rfl)
      (OpenSpec.preRow_of_cond 8 hx (by kernel_rfl) (fun k hk => by cases hk) (by kernel_rfl) (laid_met os))) ?_
  intro W base args ds gs before hval hW _ _ hreach hL _ _
  exact contract H enc W base args ds gs before hval hW hL hreach

theorem said : Rows.KeysApartSaid :=
  OpenClaim.holds_of_cond 4 Tryz.f4 rfl rfl rfl rfl rfl rfl rfl ⟨rfl, rfl, rfl, rfl, rfl⟩ rfl rfl rfl rfl rfl (by kernel_rfl) Tryz.func4 (by kernel_rfl)
    (of_decide_eq_true (by kernel_rfl)) (by unfold Func.isWrapper; first | (rw [if_pos (by decide +kernel)]; kernel_rfl) | (rw [if_neg (by decide +kernel)]; exact ⟨rfl, rfl⟩))
    (fun os started H enc _ F => by rw [OpenClaim.pre_eq_preRow]; exact lifted os started H enc F)

theorem plain (f : FuncId) (fn : Func) (hf : Tryz.pinned.checked.prog.funcNamed "phosphor/phosphorlaw22.KeysApart" = some f) (hfn : Tryz.pinned.checked.prog.funcs[f]? = some fn) :
    false = Tryz.pinned.checked.prog.looks [] ∧ ∀ (j : Nat) t, fn.params[j]? = some t → Tryz.pinned.checked.prog.wantsStandIn t = false := by
  obtain rfl : f = 4 := Option.some.inj ((show Tryz.prog.funcNamed "phosphor/phosphorlaw22.KeysApart" = some 4 by kernel_rfl).symm.trans hf) |>.symm
  obtain rfl : fn = Tryz.f4 := (Option.some.inj (Tryz.func4.symm.trans hfn)).symm
  refine ⟨by kernel_rfl, fun j t ht => ?_⟩
  rw [Tryz.params4] at ht
  have hm : t ∈ [38, 38, 4] := by simpa using Array.mem_of_getElem? ht
  have hall : ([38, 38, 4].all fun u => !Tryz.prog.wantsStandIn u) = true := by kernel_rfl
  exact (show Tryz.prog.wantsStandIn t = false by simpa using List.all_eq_true.1 hall t hm)

/-- The card. -/
theorem card : Rows.KeysApartCardSaid :=
  Claim7.holds_tied_plain_at .later [] _ _ _ _ said (fun _ h => by cases h) (by kernel_rfl) (fun _ h => by cases h) keysApart_row_tie rfl ⟨rfl, rfl⟩ (by kernel_rfl) rfl plain (by kernel_rfl)
#print axioms card
end Go.Proofs.YtigaaidacndeiaaGreatDoor.keysApart

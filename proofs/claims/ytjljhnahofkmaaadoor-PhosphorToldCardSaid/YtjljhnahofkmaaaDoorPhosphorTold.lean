/-
  PhosphorTold holds, whatever the input: the card of the statement, with the table of parts and the library's three tables tied to the program's text.
-/
import Derived.Test.YtjljhnahofkmaaaDoorCards
import Derived.Test.YtjljhnahofkmaaaDoorTie
import Derived.Test.YtjljhnahofkmaaaDoorFrameM
import Derived.Test.YtjljhnahofkmaaaDoorFrameC
import Derived.Test.YtjljhnahofkmaaaDoorTold
namespace Go.Proofs.YtjljhnahofkmaaaDoor.phosphorTold
open Go.ChangeShapes Go.WideShapes Go.ChangeAt Go.RowKit
open Go.ChangeMaps (open_string)

set_option maxRecDepth 100000 in
set_option maxHeartbeats 16000000 in
theorem walk (A0 : Option Addr) (c0 : Nat) (l : List Cl) (hl : l.length ≤ maxLen) (hc0 : l.length ≤ c0) (ok0 : OkCells l) (f t x : Int) (lo : 0 ≤ x) (hi : x ≤ 255) (w : World) (ht : Tab w) (hs : Ten w) (hr : RCells w A0 l) :
    Calls Tryd.prog 3 #[.slice A0 l.length c0, .agg #[.int .i64 f, .int .i64 t], .int .u8 x] w fun e w' => e = .returned (.bool true) ∧ Below w.heap.size w w' := by
  unfold maxLen at hl
  have hcase : (l.length ≤ 200 ∧ (l.take 200).length = l.length) ∨ (200 < l.length ∧ (l.take 200).length = 200) := by rw [List.length_take]; omega
  have hle : (l.take 200).length ≤ 200 := by rw [List.length_take]; omega
  have hok : OkCells (l.take 200) := fun y hy => ok0 y (List.mem_of_mem_take hy)
  have HR := Lib.hid (hr.take 200); have HT := Lib.hid ht; have HS := Lib.hid hs
  clear hr ok0 ht hs
  generalize l.take 200 = L at *
  generalize hm : L.length = m at *
  have HM := Lib.hid hm
  clear hm
  generalize l.length = n at *
  clear l
  have hcase2 : (n = m ∧ decide (200 < (n : Int)) = false) ∨ (m = 200 ∧ decide (200 < (n : Int)) = true ∧ 200 ≤ c0) := by
    rcases hcase with ⟨h1, h2⟩ | ⟨h1, h2⟩
    · exact .inl ⟨h2.symm, by simp; omega⟩
    · exact .inr ⟨h2, by simp; omega, by omega⟩
  clear hcase
  have hpl : (parK x 5).length ≤ 6 := parK_len x 5
  have hlt : (fmtL (parK x 5)).length ≤ 180 := fmt_len _
  have hT : hiP m t ≤ m := by unfold hiP; omega
  have HCe : Hid (∀ W, RCells W A0 L → Calls Tryd.prog 4 #[.slice A0 m c0] W fun e w' => ∃ A c, e = .returned (.slice A m c) ∧ RCells w' A L ∧ Below W.heap.size W w') := Lib.hid (fun W h => by
    have := cells_any A0 c0 L (by rw [HM.out]; omega) W h
    rw [HM.out] at this
    refine this.mono fun e w' ⟨v, he, ho, hb⟩ => ?_
    obtain ⟨A, c, rfl, _⟩ := OCells.form ho
    have hrd := OCells.reads ho
    rw [HM.out] at he
    exact ⟨A, c, he, hrd, hb⟩)
  have HPa : Hid (∀ W, Tab W → Calls Tryd.prog 7 #[.int .u8 x] W fun e w' => ∃ A c, e = .returned (.slice A (parK x 5).length c) ∧ (parK x 5).length ≤ c ∧ RInts w' A (parK x 5) ∧ Below W.heap.size W w') := Lib.hid (fun W h => by
    refine (params_any x lo hi W h).mono fun e w' ⟨v, he, ho, hb⟩ => ?_
    obtain ⟨A, c, rfl, hc, hrd⟩ := own_ints (oints_own ho)
    exact ⟨A, c, he, hc, hrd, hb⟩)
  have HFo := Lib.hid (fun A c W (hc : (parK x 5).length ≤ c) h1 h2 => format_any A c (parK x 5) (by unfold maxLen; omega) hc W h1 h2)
  have HPr : Hid (∀ W, Calls Tryd.prog 5 #[.string (bytesOf (fmtL (parK x 5)))] W fun e w' => ∃ A c, e = .returned (.tuple #[.slice A (parK x 5).length c, .int .i64 0]) ∧ RInts w' A (parK x 5) ∧ Below W.heap.size W w') := Lib.hid (fun W => by
    have hd : (bytesOf (fmtL (parK x 5))).data.toList = fmtL (parK x 5) := rfl
    have := parse_yes (bytesOf (fmtL (parK x 5))) (by have hz : (bytesOf (fmtL (parK x 5))).size = (fmtL (parK x 5)).length := (by simp [bytesOf, ByteArray.size]); rw [hz]; unfold maxLen; omega) (by rw [hd]; exact (fmt_back _).1) W
    rw [hd, par_told lo hi] at this
    refine this.mono fun e w' ⟨v, he, ho, hb⟩ => ?_
    obtain ⟨A, c, rfl⟩ := ho.form
    exact ⟨A, c, he, ho.reads, hb⟩)
  have HCh : Hid (∀ A c B d W, RCells W A L → Tab W → RInts W B (parK x 5) → Calls Tryd.prog 8 #[.agg #[.slice A m c, .int .i64 0], .int .i64 f, .int .i64 t, .slice B (parK x 5).length d] W fun e w' => ∃ g, W.heap.size ≤ g ∧ e = .returned (.agg #[.slice (some ⟨g, 0, none⟩) m m, .int .i64 0]) ∧ Row w' g (eachP (applyC (parK x 5)) L (loP f) (hiP m t - loP f)) ∧ Below W.heap.size W w') := Lib.hid (fun A c B d W h1 h2 h3 => by
    have := change_any A c L 0 f t (by rw [HM.out]; omega) hok B d (parK x 5) (by unfold maxLen; omega) W h1 h2 h3
    rw [HM.out] at this
    exact this)
  have HIn : Hid (∀ A c (k : Nat) W, Calls Tryd.prog 9 #[.agg #[.slice A m c, .int .i64 0], .int .i64 (k : Int), .int .i64 f, .int .i64 t] W fun e w' => e = .returned (.bool (decide (loP f ≤ k ∧ k < hiP m t))) ∧ Below W.heap.size W w') := Lib.hid (fun A c k W => by
    have := in_any A m c 0 (k : Int) f t W
    rw [inP_nat] at this
    exact this)
  have HOf := Lib.hid (fun W => of_any x lo hi W)
  have HRd := Lib.hid (fun W => rend_any (fb x 0) (fb x 1) (fb x 2) (fb x 3) (fb x 4) W)
  rw [rd_mod lo hi] at HRd
  unfold parts at HOf
  have hEl := eachP_size (applyC (parK x 5)) L (loP f) (hiP m t) (by rw [HM.out]; exact hT)
  rw [HM.out] at hEl
  have HEl := Lib.hid hEl.symm
  have HEk : Hid (∀ (k : Nat) (hk : k < L.length) (h : k < (eachP (applyC (parK x 5)) L (loP f) (hiP m t - loP f)).length), (eachP (applyC (parK x 5)) L (loP f) (hiP m t - loP f))[k] = if loP f ≤ k ∧ k < hiP m t then (⟨L[k].g, x % 32, L[k].k⟩ : Cl) else L[k]) := Lib.hid (fun k hk h => by
    rw [each_at _ _ _ _ (by rw [HM.out]; exact hT) k hk h]
    unfold applyC
    rw [apply_par lo hi])
  clear hEl hT hlt hpl hok lo hi
  generalize (parK x 5).length = p at *
  generalize bytesOf (fmtL (parK x 5)) = S at *
  generalize eachP (applyC (parK x 5)) L (loP f) (hiP m t - loP f) = E at *
  generalize parK x 5 = P at *
  generalize x % 32 = x2 at *
  generalize loP f = F at *
  generalize hiP m t = T at *
  have HK : Hid (Blk (w.alloc (.cells #[.int .i64 f, .int .i64 t] 24)) w.heap.size 24 #[.int .i64 f, .int .i64 t] ∧ Below w.heap.size w (w.alloc (.cells #[.int .i64 f, .int .i64 t] 24))) := Lib.hid ⟨Blk.new _ _ _, alo _ _⟩
  rcases hcase2 with ⟨rfl, hd⟩ | ⟨rfl, hd, hc3⟩
  --#1
  · go_enter Tryd.func3, Tryd.ntmps3
    go_upto_region 1 with fail
    generalize w.alloc (.cells #[.int .i64 f, .int .i64 t] 24) = W1 at *
    refine wp_region_mix_lit (by kernel_rfl) [] (by kernel_rfl) (by kernel_rfl) (by kernel_rfl) (by rfl) (by simp [apartK] <;> omega) (by simp [startK]) (by simp [stabK]) (⟨fun _ => undef, by simp [okK]⟩) (fun β hβ => ?_)
    repeat (
      refine lex_val (v := ?_) rfl rfl (fun w' hf => ?_) ?_
      rotate_left
      · have hb := HK.out.1.next hf.only.below0; have c0' := hb.cell 0; have c1' := hb.cell 1; simp only [List.getElem?_toArray, List.getElem?_cons_zero, List.getElem?_cons_succ] at c0' c1'; go_simp
        try rfl
      try simp only [Act.put, List.setIfInBounds_toArray, List.set_cons_zero, List.set_cons_succ])
    repeat (
      refine lex_val (v := ?_) rfl rfl (fun w' hf => ?_) ?_
      rotate_left
      · go_simp
        try rfl
      try simp only [Act.put, List.setIfInBounds_toArray, List.set_cons_zero, List.set_cons_succ])
    refine lex_nil fun W2 he => ?_
    have HB2 := Lib.hid (HK.out.2.trans (he.only.below0.mono HK.out.2.size))
    clear he HK
    go_wp2_with fail
    refine (HCe.out _ (HR.out.next HB2.out)).mono ?_
    rintro e w3 ⟨A, c, rfl, ho, hb3⟩
    have hal := alo w3 (.cells #[.slice A n c, .int .i64 0] 28)
    have HK3 : Hid (TK w A0 A c n w3.heap.size L (w3.alloc (.cells #[.slice A n c, .int .i64 0] 28))) := Lib.hid ⟨(HB2.out.trans (hb3.mono HB2.out.size)).trans (hal.mono (HB2.out.trans (hb3.mono HB2.out.size)).size), Blk.new _ _ _, ((HR.out.next HB2.out).next hb3).next hal, ho.next hal⟩
    clear hal hb3 ho HB2 hd
    go_wp2_with fail
    generalize w3.alloc (.cells #[.slice A n c, .int .i64 0] 28) = W3 at *
    generalize w3.heap.size = bl at *
    refine (HPa.out _ (HT.out.next HK3.out.below)).mono ?_
    rintro e w5 ⟨B, db, rfl, hdb, hn5, hb5⟩
    have HK5 := Lib.hid (HK3.out.next hb5)
    clear hb5 HK3
    go_wp2_with fail
    refine (HFo.out B db _ hdb (HS.out.next HK5.out.below) hn5).mono ?_
    rintro e w6 ⟨rfl, hb6⟩
    have HK6 := Lib.hid (HK5.out.next hb6)
    clear hb6 HK5 hn5
    go_wp2_with fail
    refine (HPr.out _).mono ?_
    rintro e w7 ⟨B2, d2, rfl, hn7, hb7⟩
    have HK7 := Lib.hid (HK6.out.next hb7)
    have HN7 := Lib.hid hn7
    clear hb7 HK6 hn7
    obtain ⟨c0', c1', _, _⟩ := cells2 HK7.out.box
    go_wp2_with fail
    refine (HCh.out A c B2 d2 _ HK7.out.r1 (HT.out.next HK7.out.below) HN7.out).mono ?_
    rintro e w8 ⟨g, hg, rfl, hrow, hb8⟩
    clear c0' c1'
    have hal := alo w8 (.cells #[.slice (some ⟨g, 0, none⟩) n n, .int .i64 0] 28)
    have HK8 := Lib.hid ((HK7.out.next hb8).next hal)
    have HRow8 := Lib.hid (Row.next hrow hal)
    have HB8 := Lib.hid (Blk.new w8 28 #[.slice (some ⟨g, 0, none⟩) n n, .int .i64 0])
    clear hal hb8 hrow hg HK7 HN7 HCh HPr HFo HPa HCe
    go_upto_region 9 with fail
    generalize w8.alloc (.cells #[.slice (some ⟨g, 0, none⟩) n n, .int .i64 0] 28) = W8 at *
    generalize w8.heap.size = bg at *
    obtain ⟨b0', b1', _, _⟩ := cells2 HB8.out
    go_wp2_with fail
    go_loopw [45] (fun i wr => ∃ k : Nat, k ≤ n ∧ i = .int .i64 k ∧ Below W8.heap.size W8 wr) (fun i _ => n - (intOf i).toNat)
    case atStart => exact ⟨0, by omega, rfl, Below.refl _ _⟩
    case round =>
      obtain ⟨k, hk, rfl, hbr⟩ := hrel
      have HK9 := Lib.hid (HK8.out.next hbr); have HRow9 := Lib.hid (Row.next HRow8.out hbr); have HB9 := Lib.hid (HB8.out.next hbr)
      have HBr := Lib.hid hbr
      clear hbr
      by_cases hlt : k < n
      · have hkL : k < L.length := by rw [HM.out]; exact hlt
        have hkE : k < E.length := by rw [HEl.out]; exact hlt
        obtain ⟨e0, e1, e2⟩ := row_cell HRow9.out hkE
        rw [HEk.out k hkL hkE] at e0 e1 e2
        obtain ⟨ad, rfl, _⟩ := HK9.out.r0.2 (by rw [HM.out]; omega)
        have HIk := Lib.hid (HIn.out A c k)
        have HY := Lib.hid (fun W (h : RCells W (some ad) L) => RCells.cell3 h hkL)
        generalize L[k] = y at *
        obtain ⟨yg, yr, yk⟩ := y
        simp only at e0 e1 e2 HY
        by_cases hin : F ≤ k ∧ k < T
        · rw [decide_eq_true hin] at HIk
          rw [if_pos hin] at e0 e1 e2
          clear hin
          simp only at e0 e1 e2
          go_upto_region 12 with fail
          have hal := alo wr (.cells #[.int .i32 yg, .int .u8 x2, .bool yk] 37)
          have HK10 := Lib.hid (HK9.out.next hal); have HC10 := Lib.hid (Blk.new wr 37 #[.int .i32 yg, .int .u8 x2, .bool yk])
          have HBr10 := Lib.hid (HBr.out.trans (hal.mono HBr.out.size))
          clear hal e0 e1 e2
          generalize wr.alloc (.cells #[.int .i32 yg, .int .u8 x2, .bool yk] 37) = W10 at *
          generalize wr.heap.size = bc at *
          obtain ⟨c0', c1', _, _⟩ := cells2 HK10.out.box
          go_wp2_with fail
          refine (HIk.out _).mono ?_
          rintro e w11 ⟨rfl, hb11⟩
          have HK11 := Lib.hid (HK10.out.next hb11); have HC11 := Lib.hid (HC10.out.next hb11); have HBr11 := Lib.hid (HBr10.out.trans (hb11.mono HBr10.out.size))
          clear hb11 c0' c1' HK10 HC10 HBr10
          go_upto_region 13 with fail
          refine wp_region_mix_lit (by kernel_rfl) [(24, .call (.agg #[.bool (fb x 0), .bool (fb x 1), .bool (fb x 2), .bool (fb x 3), .bool (fb x 4)])), (25, .call (.int .u8 x2))] (by kernel_rfl) (by kernel_rfl) (by kernel_rfl) (by rfl) (by simp [apartK] <;> omega) (by simp [startK]) (by simp [stabK]) (⟨fun _ => undef, by simp [okK]⟩) (fun β hβ => ?_)
          repeat (
            refine lex_val (v := ?_) rfl rfl (fun w' hf => ?_) ?_
            rotate_left
            · obtain ⟨y0, y1, y2⟩ := HY.out w' (HK11.out.next hf.only.below0).r0; have hb := HC11.out.next hf.only.below0; have z0 := hb.cell 0; have z1 := hb.cell 1; have z2 := hb.cell 2; simp only [List.getElem?_toArray, List.getElem?_cons_zero, List.getElem?_cons_succ] at z0 z1 z2; go_simp
              try rfl
            try simp only [Act.put, List.setIfInBounds_toArray, List.set_cons_zero, List.set_cons_succ])
          refine lex_call (f := 11) (args := ?_) rfl rfl (fun w' hf => ?_) (fun w' hf => ?_) ?_
          rotate_left
          · obtain ⟨y0, y1, y2⟩ := HY.out w' (HK11.out.next hf.only.below0).r0; have hb := HC11.out.next hf.only.below0; have z0 := hb.cell 0; have z1 := hb.cell 1; have z2 := hb.cell 2; simp only [List.getElem?_toArray, List.getElem?_cons_zero, List.getElem?_cons_succ] at z0 z1 z2; go_simp
            try rfl
          · obtain ⟨y0, y1, y2⟩ := HY.out w' (HK11.out.next hf.only.below0).r0; have hb := HC11.out.next hf.only.below0; have z0 := hb.cell 0; have z1 := hb.cell 1; have z2 := hb.cell 2; simp only [List.getElem?_toArray, List.getElem?_cons_zero, List.getElem?_cons_succ] at z0 z1 z2; exact HOf.out w'
          try simp only [Act.put, List.setIfInBounds_toArray, List.set_cons_zero, List.set_cons_succ]
          refine lex_call (f := 10) (args := ?_) rfl rfl (fun w' hf => ?_) (fun w' hf => ?_) ?_
          rotate_left
          · obtain ⟨y0, y1, y2⟩ := HY.out w' (HK11.out.next hf.only.below0).r0; have hb := HC11.out.next hf.only.below0; have z0 := hb.cell 0; have z1 := hb.cell 1; have z2 := hb.cell 2; simp only [List.getElem?_toArray, List.getElem?_cons_zero, List.getElem?_cons_succ] at z0 z1 z2; go_simp
            try rfl
          · obtain ⟨y0, y1, y2⟩ := HY.out w' (HK11.out.next hf.only.below0).r0; have hb := HC11.out.next hf.only.below0; have z0 := hb.cell 0; have z1 := hb.cell 1; have z2 := hb.cell 2; simp only [List.getElem?_toArray, List.getElem?_cons_zero, List.getElem?_cons_succ] at z0 z1 z2; exact HRd.out w'
          try simp only [Act.put, List.setIfInBounds_toArray, List.set_cons_zero, List.set_cons_succ]
          repeat (
            refine lex_val (v := ?_) rfl rfl (fun w' hf => ?_) ?_
            rotate_left
            · obtain ⟨y0, y1, y2⟩ := HY.out w' (HK11.out.next hf.only.below0).r0; have hb := HC11.out.next hf.only.below0; have z0 := hb.cell 0; have z1 := hb.cell 1; have z2 := hb.cell 2; simp only [List.getElem?_toArray, List.getElem?_cons_zero, List.getElem?_cons_succ] at z0 z1 z2; go_simp
              try rfl
            try simp only [Act.put, List.setIfInBounds_toArray, List.set_cons_zero, List.set_cons_succ])
          repeat (
            refine lex_skip rfl rfl ?_
            try simp only [Act.put, List.setIfInBounds_toArray, List.set_cons_zero, List.set_cons_succ])
          repeat (
            refine lex_val (v := ?_) rfl rfl (fun w' hf => ?_) ?_
            rotate_left
            · go_simp
              try rfl
            try simp only [Act.put, List.setIfInBounds_toArray, List.set_cons_zero, List.set_cons_succ])
          repeat (
            refine lex_skip rfl rfl ?_
            try simp only [Act.put, List.setIfInBounds_toArray, List.set_cons_zero, List.set_cons_succ])
          repeat (
            refine lex_val (v := ?_) rfl rfl (fun w' hf => ?_) ?_
            rotate_left
            · go_simp
              try rfl
            try simp only [Act.put, List.setIfInBounds_toArray, List.set_cons_zero, List.set_cons_succ])
          refine lex_nil fun w12 he => ?_
          have HBn := Lib.hid (HBr11.out.trans (he.only.below0.mono HBr11.out.size))
          clear he
          go_wp2_with fail
          go_roundw
          case rel => exact ⟨k + 1, by omega, by go_num, HBn.out⟩
          case measure => simp [intOf]; omega
        · rw [decide_eq_false hin] at HIk
          rw [if_neg hin] at e0 e1 e2
          clear hin
          simp only at e0 e1 e2
          go_upto_region 12 with fail
          have hal := alo wr (.cells #[.int .i32 yg, .int .u8 yr, .bool yk] 37)
          have HK10 := Lib.hid (HK9.out.next hal); have HC10 := Lib.hid (Blk.new wr 37 #[.int .i32 yg, .int .u8 yr, .bool yk])
          have HBr10 := Lib.hid (HBr.out.trans (hal.mono HBr.out.size))
          clear hal e0 e1 e2
          generalize wr.alloc (.cells #[.int .i32 yg, .int .u8 yr, .bool yk] 37) = W10 at *
          generalize wr.heap.size = bc at *
          obtain ⟨c0', c1', _, _⟩ := cells2 HK10.out.box
          go_wp2_with fail
          refine (HIk.out _).mono ?_
          rintro e w11 ⟨rfl, hb11⟩
          have HK11 := Lib.hid (HK10.out.next hb11); have HC11 := Lib.hid (HC10.out.next hb11); have HBr11 := Lib.hid (HBr10.out.trans (hb11.mono HBr10.out.size))
          clear hb11 c0' c1' HK10 HC10 HBr10
          have hgc : ∀ W p q, (eqGuard .neq 37 p q (.agg #[.int .i32 yg, .int .u8 yr, .bool yk]) (.agg #[.int .i32 yg, .int .u8 yr, .bool yk])).run Tryd.prog W = .ok () W := fun W p q => guard_cells .neq W p q ⟨yg, yr, yk⟩ ⟨yg, yr, yk⟩
          have hnc : ∀ W, (binOp .neq 37 (.agg #[.int .i32 yg, .int .u8 yr, .bool yk]) (.agg #[.int .i32 yg, .int .u8 yr, .bool yk])).run Tryd.prog W = .ok (.bool false) W := fun W => by
            have := neq_cells W ⟨yg, yr, yk⟩ ⟨yg, yr, yk⟩
            rw [(Cl.beq_iff _ _).2 rfl] at this
            exact this
          go_upto_region 13 with fail
          refine wp_region_mix_lit (by kernel_rfl) [] (by kernel_rfl) (by kernel_rfl) (by kernel_rfl) (by rfl) (by simp [apartK] <;> omega) (by simp [startK]) (by simp [stabK]) (⟨fun _ => undef, by simp [okK]⟩) (fun β hβ => ?_)
          repeat (
            refine lex_val (v := ?_) rfl rfl (fun w' hf => ?_) ?_
            rotate_left
            · obtain ⟨y0, y1, y2⟩ := HY.out w' (HK11.out.next hf.only.below0).r0; have hb := HC11.out.next hf.only.below0; have z0 := hb.cell 0; have z1 := hb.cell 1; have z2 := hb.cell 2; simp only [List.getElem?_toArray, List.getElem?_cons_zero, List.getElem?_cons_succ] at z0 z1 z2; go_simp
              try rfl
            try simp only [Act.put, List.setIfInBounds_toArray, List.set_cons_zero, List.set_cons_succ])
          repeat (
            refine lex_skip rfl rfl ?_
            try simp only [Act.put, List.setIfInBounds_toArray, List.set_cons_zero, List.set_cons_succ])
          repeat (
            refine lex_val (v := ?_) rfl rfl (fun w' hf => ?_) ?_
            rotate_left
            · obtain ⟨y0, y1, y2⟩ := HY.out w' (HK11.out.next hf.only.below0).r0; have hb := HC11.out.next hf.only.below0; have z0 := hb.cell 0; have z1 := hb.cell 1; have z2 := hb.cell 2; simp only [List.getElem?_toArray, List.getElem?_cons_zero, List.getElem?_cons_succ] at z0 z1 z2; go_simp
              try rfl
            try simp only [Act.put, List.setIfInBounds_toArray, List.set_cons_zero, List.set_cons_succ])
          repeat (
            refine lex_skip rfl rfl ?_
            try simp only [Act.put, List.setIfInBounds_toArray, List.set_cons_zero, List.set_cons_succ])
          repeat (
            refine lex_val (v := ?_) rfl rfl (fun w' hf => ?_) ?_
            rotate_left
            · obtain ⟨y0, y1, y2⟩ := HY.out w' (HK11.out.next hf.only.below0).r0; have hb := HC11.out.next hf.only.below0; have z0 := hb.cell 0; have z1 := hb.cell 1; have z2 := hb.cell 2; simp only [List.getElem?_toArray, List.getElem?_cons_zero, List.getElem?_cons_succ] at z0 z1 z2; go_simp
              try rfl
            try simp only [Act.put, List.setIfInBounds_toArray, List.set_cons_zero, List.set_cons_succ])
          refine lex_nil fun w12 he => ?_
          have HBn := Lib.hid (HBr11.out.trans (he.only.below0.mono HBr11.out.size))
          clear he
          go_wp2_with fail
          go_roundw
          case rel => exact ⟨k + 1, by omega, by go_num, HBn.out⟩
          case measure => simp [intOf]; omega
      · obtain rfl : k = n := by omega
        obtain ⟨b0', b1', _, _⟩ := cells2 HB9.out
        have hbl := HK9.out.below
        go_wp2_with fail
        go_ret
        exact ⟨rfl, hbl⟩
  --#2
  · go_enter Tryd.func3, Tryd.ntmps3
    go_upto_region 1 with fail
    generalize w.alloc (.cells #[.int .i64 f, .int .i64 t] 24) = W1 at *
    refine wp_region_mix_lit (by kernel_rfl) [] (by kernel_rfl) (by kernel_rfl) (by kernel_rfl) (by rfl) (by simp [apartK] <;> omega) (by simp [startK]) (by simp [stabK]) (⟨fun _ => undef, by simp [okK]⟩) (fun β hβ => ?_)
    repeat (
      refine lex_val (v := ?_) rfl rfl (fun w' hf => ?_) ?_
      rotate_left
      · have hb := HK.out.1.next hf.only.below0; have c0' := hb.cell 0; have c1' := hb.cell 1; simp only [List.getElem?_toArray, List.getElem?_cons_zero, List.getElem?_cons_succ] at c0' c1'; go_simp
        try rfl
      try simp only [Act.put, List.setIfInBounds_toArray, List.set_cons_zero, List.set_cons_succ])
    repeat (
      refine lex_val (v := ?_) rfl rfl (fun w' hf => ?_) ?_
      rotate_left
      · go_simp
        try rfl
      try simp only [Act.put, List.setIfInBounds_toArray, List.set_cons_zero, List.set_cons_succ])
    refine lex_nil fun W2 he => ?_
    have HB2 := Lib.hid (HK.out.2.trans (he.only.below0.mono HK.out.2.size))
    clear he HK
    go_wp2_with fail
    refine (HCe.out _ (HR.out.next HB2.out)).mono ?_
    rintro e w3 ⟨A, c, rfl, ho, hb3⟩
    have hal := alo w3 (.cells #[.slice A 200 c, .int .i64 0] 28)
    have HK3 : Hid (TK w A0 A c 200 w3.heap.size L (w3.alloc (.cells #[.slice A 200 c, .int .i64 0] 28))) := Lib.hid ⟨(HB2.out.trans (hb3.mono HB2.out.size)).trans (hal.mono (HB2.out.trans (hb3.mono HB2.out.size)).size), Blk.new _ _ _, ((HR.out.next HB2.out).next hb3).next hal, ho.next hal⟩
    clear hal hb3 ho HB2 hd
    go_wp2_with fail
    generalize w3.alloc (.cells #[.slice A 200 c, .int .i64 0] 28) = W3 at *
    generalize w3.heap.size = bl at *
    refine (HPa.out _ (HT.out.next HK3.out.below)).mono ?_
    rintro e w5 ⟨B, db, rfl, hdb, hn5, hb5⟩
    have HK5 := Lib.hid (HK3.out.next hb5)
    clear hb5 HK3
    go_wp2_with fail
    refine (HFo.out B db _ hdb (HS.out.next HK5.out.below) hn5).mono ?_
    rintro e w6 ⟨rfl, hb6⟩
    have HK6 := Lib.hid (HK5.out.next hb6)
    clear hb6 HK5 hn5
    go_wp2_with fail
    refine (HPr.out _).mono ?_
    rintro e w7 ⟨B2, d2, rfl, hn7, hb7⟩
    have HK7 := Lib.hid (HK6.out.next hb7)
    have HN7 := Lib.hid hn7
    clear hb7 HK6 hn7
    obtain ⟨c0', c1', _, _⟩ := cells2 HK7.out.box
    go_wp2_with fail
    refine (HCh.out A c B2 d2 _ HK7.out.r1 (HT.out.next HK7.out.below) HN7.out).mono ?_
    rintro e w8 ⟨g, hg, rfl, hrow, hb8⟩
    clear c0' c1'
    have hal := alo w8 (.cells #[.slice (some ⟨g, 0, none⟩) 200 200, .int .i64 0] 28)
    have HK8 := Lib.hid ((HK7.out.next hb8).next hal)
    have HRow8 := Lib.hid (Row.next hrow hal)
    have HB8 := Lib.hid (Blk.new w8 28 #[.slice (some ⟨g, 0, none⟩) 200 200, .int .i64 0])
    clear hal hb8 hrow hg HK7 HN7 HCh HPr HFo HPa HCe
    go_upto_region 9 with fail
    generalize w8.alloc (.cells #[.slice (some ⟨g, 0, none⟩) 200 200, .int .i64 0] 28) = W8 at *
    generalize w8.heap.size = bg at *
    obtain ⟨b0', b1', _, _⟩ := cells2 HB8.out
    go_wp2_with fail
    go_loopw [45] (fun i wr => ∃ k : Nat, k ≤ 200 ∧ i = .int .i64 k ∧ Below W8.heap.size W8 wr) (fun i _ => 200 - (intOf i).toNat)
    case atStart => exact ⟨0, by omega, rfl, Below.refl _ _⟩
    case round =>
      obtain ⟨k, hk, rfl, hbr⟩ := hrel
      have HK9 := Lib.hid (HK8.out.next hbr); have HRow9 := Lib.hid (Row.next HRow8.out hbr); have HB9 := Lib.hid (HB8.out.next hbr)
      have HBr := Lib.hid hbr
      clear hbr
      by_cases hlt : k < 200
      · have hkL : k < L.length := by rw [HM.out]; exact hlt
        have hkE : k < E.length := by rw [HEl.out]; exact hlt
        obtain ⟨e0, e1, e2⟩ := row_cell HRow9.out hkE
        rw [HEk.out k hkL hkE] at e0 e1 e2
        obtain ⟨ad, rfl, _⟩ := HK9.out.r0.2 (by rw [HM.out]; omega)
        have HIk := Lib.hid (HIn.out A c k)
        have HY := Lib.hid (fun W (h : RCells W (some ad) L) => RCells.cell3 h hkL)
        generalize L[k] = y at *
        obtain ⟨yg, yr, yk⟩ := y
        simp only at e0 e1 e2 HY
        by_cases hin : F ≤ k ∧ k < T
        · rw [decide_eq_true hin] at HIk
          rw [if_pos hin] at e0 e1 e2
          clear hin
          simp only at e0 e1 e2
          go_upto_region 12 with fail
          have hal := alo wr (.cells #[.int .i32 yg, .int .u8 x2, .bool yk] 37)
          have HK10 := Lib.hid (HK9.out.next hal); have HC10 := Lib.hid (Blk.new wr 37 #[.int .i32 yg, .int .u8 x2, .bool yk])
          have HBr10 := Lib.hid (HBr.out.trans (hal.mono HBr.out.size))
          clear hal e0 e1 e2
          generalize wr.alloc (.cells #[.int .i32 yg, .int .u8 x2, .bool yk] 37) = W10 at *
          generalize wr.heap.size = bc at *
          obtain ⟨c0', c1', _, _⟩ := cells2 HK10.out.box
          go_wp2_with fail
          refine (HIk.out _).mono ?_
          rintro e w11 ⟨rfl, hb11⟩
          have HK11 := Lib.hid (HK10.out.next hb11); have HC11 := Lib.hid (HC10.out.next hb11); have HBr11 := Lib.hid (HBr10.out.trans (hb11.mono HBr10.out.size))
          clear hb11 c0' c1' HK10 HC10 HBr10
          go_upto_region 13 with fail
          refine wp_region_mix_lit (by kernel_rfl) [(24, .call (.agg #[.bool (fb x 0), .bool (fb x 1), .bool (fb x 2), .bool (fb x 3), .bool (fb x 4)])), (25, .call (.int .u8 x2))] (by kernel_rfl) (by kernel_rfl) (by kernel_rfl) (by rfl) (by simp [apartK] <;> omega) (by simp [startK]) (by simp [stabK]) (⟨fun _ => undef, by simp [okK]⟩) (fun β hβ => ?_)
          repeat (
            refine lex_val (v := ?_) rfl rfl (fun w' hf => ?_) ?_
            rotate_left
            · obtain ⟨y0, y1, y2⟩ := HY.out w' (HK11.out.next hf.only.below0).r0; have hb := HC11.out.next hf.only.below0; have z0 := hb.cell 0; have z1 := hb.cell 1; have z2 := hb.cell 2; simp only [List.getElem?_toArray, List.getElem?_cons_zero, List.getElem?_cons_succ] at z0 z1 z2; go_simp
              try rfl
            try simp only [Act.put, List.setIfInBounds_toArray, List.set_cons_zero, List.set_cons_succ])
          refine lex_call (f := 11) (args := ?_) rfl rfl (fun w' hf => ?_) (fun w' hf => ?_) ?_
          rotate_left
          · obtain ⟨y0, y1, y2⟩ := HY.out w' (HK11.out.next hf.only.below0).r0; have hb := HC11.out.next hf.only.below0; have z0 := hb.cell 0; have z1 := hb.cell 1; have z2 := hb.cell 2; simp only [List.getElem?_toArray, List.getElem?_cons_zero, List.getElem?_cons_succ] at z0 z1 z2; go_simp
            try rfl
          · obtain ⟨y0, y1, y2⟩ := HY.out w' (HK11.out.next hf.only.below0).r0; have hb := HC11.out.next hf.only.below0; have z0 := hb.cell 0; have z1 := hb.cell 1; have z2 := hb.cell 2; simp only [List.getElem?_toArray, List.getElem?_cons_zero, List.getElem?_cons_succ] at z0 z1 z2; exact HOf.out w'
          try simp only [Act.put, List.setIfInBounds_toArray, List.set_cons_zero, List.set_cons_succ]
          refine lex_call (f := 10) (args := ?_) rfl rfl (fun w' hf => ?_) (fun w' hf => ?_) ?_
          rotate_left
          · obtain ⟨y0, y1, y2⟩ := HY.out w' (HK11.out.next hf.only.below0).r0; have hb := HC11.out.next hf.only.below0; have z0 := hb.cell 0; have z1 := hb.cell 1; have z2 := hb.cell 2; simp only [List.getElem?_toArray, List.getElem?_cons_zero, List.getElem?_cons_succ] at z0 z1 z2; go_simp
            try rfl
          · obtain ⟨y0, y1, y2⟩ := HY.out w' (HK11.out.next hf.only.below0).r0; have hb := HC11.out.next hf.only.below0; have z0 := hb.cell 0; have z1 := hb.cell 1; have z2 := hb.cell 2; simp only [List.getElem?_toArray, List.getElem?_cons_zero, List.getElem?_cons_succ] at z0 z1 z2; exact HRd.out w'
          try simp only [Act.put, List.setIfInBounds_toArray, List.set_cons_zero, List.set_cons_succ]
          repeat (
            refine lex_val (v := ?_) rfl rfl (fun w' hf => ?_) ?_
            rotate_left
            · obtain ⟨y0, y1, y2⟩ := HY.out w' (HK11.out.next hf.only.below0).r0; have hb := HC11.out.next hf.only.below0; have z0 := hb.cell 0; have z1 := hb.cell 1; have z2 := hb.cell 2; simp only [List.getElem?_toArray, List.getElem?_cons_zero, List.getElem?_cons_succ] at z0 z1 z2; go_simp
              try rfl
            try simp only [Act.put, List.setIfInBounds_toArray, List.set_cons_zero, List.set_cons_succ])
          repeat (
            refine lex_skip rfl rfl ?_
            try simp only [Act.put, List.setIfInBounds_toArray, List.set_cons_zero, List.set_cons_succ])
          repeat (
            refine lex_val (v := ?_) rfl rfl (fun w' hf => ?_) ?_
            rotate_left
            · go_simp
              try rfl
            try simp only [Act.put, List.setIfInBounds_toArray, List.set_cons_zero, List.set_cons_succ])
          repeat (
            refine lex_skip rfl rfl ?_
            try simp only [Act.put, List.setIfInBounds_toArray, List.set_cons_zero, List.set_cons_succ])
          repeat (
            refine lex_val (v := ?_) rfl rfl (fun w' hf => ?_) ?_
            rotate_left
            · go_simp
              try rfl
            try simp only [Act.put, List.setIfInBounds_toArray, List.set_cons_zero, List.set_cons_succ])
          refine lex_nil fun w12 he => ?_
          have HBn := Lib.hid (HBr11.out.trans (he.only.below0.mono HBr11.out.size))
          clear he
          go_wp2_with fail
          go_roundw
          case rel => exact ⟨k + 1, by omega, by go_num, HBn.out⟩
          case measure => simp [intOf]; omega
        · rw [decide_eq_false hin] at HIk
          rw [if_neg hin] at e0 e1 e2
          clear hin
          simp only at e0 e1 e2
          go_upto_region 12 with fail
          have hal := alo wr (.cells #[.int .i32 yg, .int .u8 yr, .bool yk] 37)
          have HK10 := Lib.hid (HK9.out.next hal); have HC10 := Lib.hid (Blk.new wr 37 #[.int .i32 yg, .int .u8 yr, .bool yk])
          have HBr10 := Lib.hid (HBr.out.trans (hal.mono HBr.out.size))
          clear hal e0 e1 e2
          generalize wr.alloc (.cells #[.int .i32 yg, .int .u8 yr, .bool yk] 37) = W10 at *
          generalize wr.heap.size = bc at *
          obtain ⟨c0', c1', _, _⟩ := cells2 HK10.out.box
          go_wp2_with fail
          refine (HIk.out _).mono ?_
          rintro e w11 ⟨rfl, hb11⟩
          have HK11 := Lib.hid (HK10.out.next hb11); have HC11 := Lib.hid (HC10.out.next hb11); have HBr11 := Lib.hid (HBr10.out.trans (hb11.mono HBr10.out.size))
          clear hb11 c0' c1' HK10 HC10 HBr10
          have hgc : ∀ W p q, (eqGuard .neq 37 p q (.agg #[.int .i32 yg, .int .u8 yr, .bool yk]) (.agg #[.int .i32 yg, .int .u8 yr, .bool yk])).run Tryd.prog W = .ok () W := fun W p q => guard_cells .neq W p q ⟨yg, yr, yk⟩ ⟨yg, yr, yk⟩
          have hnc : ∀ W, (binOp .neq 37 (.agg #[.int .i32 yg, .int .u8 yr, .bool yk]) (.agg #[.int .i32 yg, .int .u8 yr, .bool yk])).run Tryd.prog W = .ok (.bool false) W := fun W => by
            have := neq_cells W ⟨yg, yr, yk⟩ ⟨yg, yr, yk⟩
            rw [(Cl.beq_iff _ _).2 rfl] at this
            exact this
          go_upto_region 13 with fail
          refine wp_region_mix_lit (by kernel_rfl) [] (by kernel_rfl) (by kernel_rfl) (by kernel_rfl) (by rfl) (by simp [apartK] <;> omega) (by simp [startK]) (by simp [stabK]) (⟨fun _ => undef, by simp [okK]⟩) (fun β hβ => ?_)
          repeat (
            refine lex_val (v := ?_) rfl rfl (fun w' hf => ?_) ?_
            rotate_left
            · obtain ⟨y0, y1, y2⟩ := HY.out w' (HK11.out.next hf.only.below0).r0; have hb := HC11.out.next hf.only.below0; have z0 := hb.cell 0; have z1 := hb.cell 1; have z2 := hb.cell 2; simp only [List.getElem?_toArray, List.getElem?_cons_zero, List.getElem?_cons_succ] at z0 z1 z2; go_simp
              try rfl
            try simp only [Act.put, List.setIfInBounds_toArray, List.set_cons_zero, List.set_cons_succ])
          repeat (
            refine lex_skip rfl rfl ?_
            try simp only [Act.put, List.setIfInBounds_toArray, List.set_cons_zero, List.set_cons_succ])
          repeat (
            refine lex_val (v := ?_) rfl rfl (fun w' hf => ?_) ?_
            rotate_left
            · obtain ⟨y0, y1, y2⟩ := HY.out w' (HK11.out.next hf.only.below0).r0; have hb := HC11.out.next hf.only.below0; have z0 := hb.cell 0; have z1 := hb.cell 1; have z2 := hb.cell 2; simp only [List.getElem?_toArray, List.getElem?_cons_zero, List.getElem?_cons_succ] at z0 z1 z2; go_simp
              try rfl
            try simp only [Act.put, List.setIfInBounds_toArray, List.set_cons_zero, List.set_cons_succ])
          repeat (
            refine lex_skip rfl rfl ?_
            try simp only [Act.put, List.setIfInBounds_toArray, List.set_cons_zero, List.set_cons_succ])
          repeat (
            refine lex_val (v := ?_) rfl rfl (fun w' hf => ?_) ?_
            rotate_left
            · obtain ⟨y0, y1, y2⟩ := HY.out w' (HK11.out.next hf.only.below0).r0; have hb := HC11.out.next hf.only.below0; have z0 := hb.cell 0; have z1 := hb.cell 1; have z2 := hb.cell 2; simp only [List.getElem?_toArray, List.getElem?_cons_zero, List.getElem?_cons_succ] at z0 z1 z2; go_simp
              try rfl
            try simp only [Act.put, List.setIfInBounds_toArray, List.set_cons_zero, List.set_cons_succ])
          refine lex_nil fun w12 he => ?_
          have HBn := Lib.hid (HBr11.out.trans (he.only.below0.mono HBr11.out.size))
          clear he
          go_wp2_with fail
          go_roundw
          case rel => exact ⟨k + 1, by omega, by go_num, HBn.out⟩
          case measure => simp [intOf]; omega
      · obtain rfl : k = 200 := by omega
        obtain ⟨b0', b1', _, _⟩ := cells2 HB9.out
        have hbl := HK9.out.below
        go_wp2_with fail
        go_ret
        exact ⟨rfl, hbl⟩

set_option maxRecDepth 100000 in
/-- What the walk gives, for every argument and every world that holds the table. -/
theorem contract (H : Type) (enc : TypeId × Value → H) (W : World) (base : Nat) (args : Array Value) (ds gs : List (DataW H)) (before : List MemPlace)
    (hval : ∀ (j : Nat) t v, Tryd.f3.params[j]? = some t → args[j]? = some v → Value.okWide Tryd.prog W .any base t v)
    (hW : DataW.Whole enc Tryd.prog Tryd.f3.params.toList Rows.phosphorToldSpec.vars false W args.toList ds gs before) (hL : laidMetH Tryd.prog Rows.phosphorToldRow.laid W)
    (hreach : (DataW.weightsEach Tryd.prog (Tryd.f3.params.toList ++ []) (ds ++ gs)).all (· ≤ reachBytes) = true) :
    Calls Tryd.prog 3 args W fun e W' => ∃ v, e = .returned v ∧ Rows.phosphorToldSpec.post enc Tryd.prog Tryd.f3 false true false false W args v W' := by
  have hW' := hW
  have ht := tabM hL
  have hs := tenM hL
  have hlts : ∀ x ∈ before, x.block < W.heap.size := fun x hx => hW'.lt x hx
  obtain ⟨p, q, hA0, hV, rfl, hfz, hnd⟩ := hW
  have hA : DataW.TrodAll enc Tryd.prog W 0 (fun _ => true) true Tryd.f3.params.toList args.toList ds p := hA0
  rw [Tryd.params3] at hA hval hreach
  obtain ⟨v0, vs0, d0, ds0, pp0, qq0, hargs, rfl, rfl, h0, rr0⟩ := trodAll_cons hA
  obtain ⟨v1, vs1, d1, ds1, pp1, qq1, rfl, rfl, rfl, h1, rr1⟩ := trodAll_cons rr0
  obtain ⟨v2, vs2, d2, ds2, pp2, qq2, rfl, rfl, rfl, h2, rr2⟩ := trodAll_cons rr1
  obtain ⟨rfl, rfl, rfl⟩ := trodAll_nil rr2
  obtain rfl : args = #[v0, v1, v2] := by cases args; simp_all
  obtain ⟨rfl, rfl⟩ := trodVars_none hV
  obtain ⟨b0, len0, cap0, rfl⟩ := okWide_slice Tryd.underlying22 (hval 0 22 v0 rfl rfl)
  obtain ⟨l0, hlen0, hm0, hc0, ok0, hri0⟩ := cells_in h0
  subst hlen0
  obtain ⟨f1, t1, rfl⟩ := span2_in (hval 1 24 v1 rfl rfl) h1
  obtain ⟨a2, rfl, rfl, rfl, w2⟩ := open_int Tryd.underlying25 (hval 2 25 v2 rfl rfl) h2
  obtain ⟨lo2, hi2⟩ := bounds_u8 w2
  clear hA0
  refine (walk b0 cap0 l0 hm0 hc0 ok0 f1 t1 a2 lo2 hi2 W ht hs hri0).mono fun e W' ⟨he, hb⟩ => ?_
  subst he
  exact ⟨_, rfl, post_law laidOut (by kernel_rfl) (by kernel_rfl) rfl hW' rfl hb⟩

set_option maxRecDepth 100000 in
theorem laid_met (os : Os) : laidMet Tryd.prog Rows.phosphorToldRow.laid ((laidWorldM os).forCall (fun _ _ => 0) ⟨#[], #[Value.slice none 0 0, Value.agg #[.int .i64 0, .int .i64 0], Value.int .u8 0], []⟩).memory :=
  laidMet_of_run' 8 (by kernel_rfl) (by kernel_rfl)
set_option maxRecDepth 100000 in
theorem reads (os : Os) {H : Type} (enc : TypeId × Value → H) : ∃ places, DataW.whole enc Tryd.prog ((laidWorldM os).forCall (fun _ _ => 0) ⟨#[], #[Value.slice none 0 0, Value.agg #[.int .i64 0, .int .i64 0], Value.int .u8 0], []⟩).memory Tryd.f3.params.toList Rows.phosphorToldSpec.vars false (#[Value.slice none 0 0, Value.agg #[.int .i64 0, .int .i64 0], Value.int .u8 0] : Array Value).toList 8 = some ([.nil, .agg [.lit (.int .i64 0), .lit (.int .i64 0)], .lit (.int .u8 0)], [], places) :=
  ⟨[], by kernel_rfl⟩

set_option maxRecDepth 100000 in
theorem lifted (os : Os) (started : os.Started) (H : Type) (enc : TypeId × Value → H) (F : Stop.Interp) :
    ReturnsInHanded {} Tryd.checked os 3 .any ((OpenSpec.ofChange Rows.phosphorToldSpec).preRow enc Tryd.prog Tryd.f3 Rows.phosphorToldRow.domain false Rows.phosphorToldRow.laid) (((OpenSpec.ofChange Rows.phosphorToldSpec).at F).post enc Tryd.prog Tryd.f3 false true false false) := by
  obtain ⟨places, hx⟩ := reads os enc
  refine returnsInHanded_of_row (C := Tryd.checked) (s := OpenSpec.ofChange Rows.phosphorToldSpec) own started (by kernel_rfl) Tryd.func3
    (witness_row_at (enc := enc) (C := Tryd.checked) false (laidWorldM os) #[Value.slice none 0 0, Value.agg #[.int .i64 0, .int .i64 0], Value.int .u8 0] rfl (by kernel_rfl) (by kernel_rfl) (by kernel_rfl)
      (OpenSpec.preRow_of_cond 8 hx (by kernel_rfl) (fun k hk => by cases hk) (by kernel_rfl) (laid_met os))) ?_
  intro W base args ds gs before hval hW _ _ hreach hL _ _
  exact contract H enc W base args ds gs before hval hW hL hreach

theorem said : Rows.PhosphorToldSaid :=
  OpenClaim.holds_of_cond 3 Tryd.f3 rfl rfl rfl rfl rfl rfl rfl ⟨rfl, rfl, rfl, rfl, rfl⟩ rfl rfl rfl rfl rfl (by kernel_rfl) Tryd.func3 (by kernel_rfl)
    (of_decide_eq_true (by kernel_rfl)) (by unfold Func.isWrapper; first | (rw [if_pos (by decide +kernel)]; kernel_rfl) | (rw [if_neg (by decide +kernel)]; exact ⟨rfl, rfl⟩))
    (fun os started H enc _ F => by rw [OpenClaim.pre_eq_preRow]; exact lifted os started H enc F)

theorem plain (f : FuncId) (fn : Func) (hf : Tryd.pinned.checked.prog.funcNamed "phosphor/phosphortop.PhosphorTold" = some f) (hfn : Tryd.pinned.checked.prog.funcs[f]? = some fn) :
    false = Tryd.pinned.checked.prog.looks [] ∧ ∀ (j : Nat) t, fn.params[j]? = some t → Tryd.pinned.checked.prog.wantsStandIn t = false := by
  obtain rfl : f = 3 := Option.some.inj ((show Tryd.prog.funcNamed "phosphor/phosphortop.PhosphorTold" = some 3 by kernel_rfl).symm.trans hf) |>.symm
  obtain rfl : fn = Tryd.f3 := (Option.some.inj (Tryd.func3.symm.trans hfn)).symm
  refine ⟨by kernel_rfl, fun j t ht => ?_⟩
  rw [Tryd.params3] at ht
  have hm : t ∈ [22, 24, 25] := by simpa using Array.mem_of_getElem? ht
  have hall : ([22, 24, 25].all fun u => !Tryd.prog.wantsStandIn u) = true := by kernel_rfl
  exact (show Tryd.prog.wantsStandIn t = false by simpa using List.all_eq_true.1 hall t hm)

/-- The card. -/
theorem card : Rows.PhosphorToldCardSaid :=
  Claim7.holds_tied_plain_at .later [] _ _ _ _ said (fun _ h => by cases h) (by kernel_rfl) (fun _ h => by cases h) phosphorTold_row_tie rfl ⟨rfl, rfl⟩ (by kernel_rfl) rfl plain (by kernel_rfl)
#print axioms card
end Go.Proofs.YtjljhnahofkmaaaDoor.phosphorTold

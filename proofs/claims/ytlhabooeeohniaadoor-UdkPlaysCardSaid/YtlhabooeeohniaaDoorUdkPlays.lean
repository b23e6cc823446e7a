/-
  UdkPlays holds, whatever the input: the card of the statement, with the library's tables, its two errors and the keys' numbers tied to the program's text.
-/
import Derived.Test.YtlhabooeeohniaaDoorCards
import Derived.Test.YtlhabooeeohniaaDoorTie
import Derived.Test.YtlhabooeeohniaaDoorFrameUd
import Derived.Test.YtlhabooeeohniaaDoorUdkV
import Derived.Test.YtlhabooeeohniaaDoorFrameUa
namespace Go.Proofs.YtlhabooeeohniaaDoor.udkPlays
open Go.ChangeShapes Go.WideShapes Go.ChangeAt Go.RowKit
open Go.ChangeMaps (open_string)

set_option maxRecDepth 100000 in
set_option maxHeartbeats 16000000 in
theorem walk (B0 : Option Addr) (cap0 : Nat) (l : List Ak) (_hm : l.length ≤ maxLen) (key : Int) (w : World) (hu : UEnv w) (hri : RAk w B0 l) :
    Calls Tryd.prog 3 #[.slice B0 l.length cap0, .int .i64 key] w fun e w' => e = .returned (.bool true) ∧ Below w.heap.size w w' := by
  have HAw := Lib.hid (udkAwake_any w hu)
  have HU := Lib.hid hu
  have HRi := Lib.hid hri
  clear hu hri _hm
  go_enter Tryd.func3, Tryd.ntmps3
  go_wp2_with fail
  refine HAw.out.mono ?_
  rintro e w1 ⟨rfl, hb⟩
  have HB1 := Lib.hid hb
  clear hb HAw
  --#1
  go_upto_region 6 with fail
  rw [zero_keys]
  obtain ⟨K, hK⟩ : ∃ K, K = w1.heap.size := ⟨_, rfl⟩
  have hk0 := (KeyB.new w1 noT false rfl)
  have b0 := Blk.new (w1.alloc (.cells (keyC noT false) 26)) 29 #[.slice none 0 0, .bool false]
  rw [World.size_alloc] at b0
  have hB2 : Below w.heap.size w ((w1.alloc (.cells (keyC noT false) 26)).alloc (.cells #[.slice none 0 0, .bool false] 29)) := (HB1.out.alloc HB1.out.size _).alloc (by have := HB1.out.size; simp; omega) _
  have hBo : Both ((w1.alloc (.cells (keyC noT false) 26)).alloc (.cells #[.slice none 0 0, .bool false] 29)) K none noT false := ⟨by rw [hK]; exact hk0.next ((Below.refl _ _).alloc (Nat.le_refl _) _), Reads.none_, fun _ ad e => (by cases e), noT_short⟩
  have hKw : w.heap.size ≤ K := by rw [hK]; exact HB1.out.size
  have hKs : K + 2 ≤ ((w1.alloc (.cells (keyC noT false) 26)).alloc (.cells #[.slice none 0 0, .bool false] 29)).heap.size := by rw [hK]; simp
  rw [← hK] at b0 ⊢
  generalize ((w1.alloc (.cells (keyC noT false) 26)).alloc (.cells #[.slice none 0 0, .bool false] 29)) = W0 at *
  have HFK : Hid (FarU K) := Lib.hid (FarU.new HU.out hKw)
  have HB0 := Lib.hid b0; have HB2 := Lib.hid hB2; have HBo := Lib.hid hBo
  clear hk0 b0 hB2 hBo hK HB1
  --#2
  go_loopw [7] (fun i wr => ∃ (k : Nat) (T : List ByteArray) (lk : Bool) (A : Option Addr) (c : Nat), k ≤ l.length ∧ k ≤ 20 ∧ i = .int .i64 k ∧ Both wr K A T lk ∧ Blk wr (K + 1) 29 #[.slice A (listU T).length c, .bool lk] ∧ (0 < (listU T).length → ∀ ad, A = some ad → ad.block ≠ K + 1) ∧ Below w.heap.size w wr ∧ K + 2 ≤ wr.heap.size ∧ usedT T ≤ 804) (fun i _ => l.length - (intOf i).toNat)
  case atStart => exact ⟨0, noT, false, none, 0, by omega, by omega, rfl, HBo.out, HB0.out, fun _ ad e => (by cases e), HB2.out, hKs, by decide⟩
  case round =>
    obtain ⟨k, T, lk, A, c, hkl, hk8, rfl, hbo, hbx, hfa, hb, hks, hus⟩ := hrel
    have HBo := Lib.hid hbo; have HBx := Lib.hid hbx; have HFa := Lib.hid hfa; have HB := Lib.hid hb
    have hwk : IntKind.i64.wrap ((k : Int) + 1) = (k : Int) + 1 := IntWalk.i64_in _ (by omega)
    clear hbo hbx hfa hb HB0 HB2 hKs
    by_cases hlt : k < l.length ∧ k < 20
    · have m1 : ((k : Int) < (l.length : Int)) = True := eq_true (by omega)
      have m2 : ((k : Int) < 20) = True := eq_true (by omega)
      have m3 : (0 : Int) ≤ (k : Int) := by omega
      have HUS := Lib.hid hus
      have HCl := Lib.hid (cloneU_any K T lk wr HBo.out.key)
      clear hus
      --#3
      go_wp2_with fail
      refine HCl.out.mono ?_
      rintro e w3 ⟨rfl, hk3, hb3, hz3⟩
      obtain ⟨KC, hKC⟩ : ∃ KC, KC = wr.heap.size := ⟨_, rfl⟩
      rw [← hKC] at hk3
      have HC3 := Lib.hid hk3
      have HBo3 := Lib.hid (HBo.out.next hb3)
      have HBx3 := Lib.hid (HBx.out.next hb3)
      have HB3 := Lib.hid (HB.out.trans (hb3.mono HB.out.size))
      have hs3 : KC < w3.heap.size := by omega
      have hKC2 : K + 2 ≤ KC := by omega
      have HAK : Hid (0 < (listU T).length → ∀ ad, A = some ad → ad.block < KC) := Lib.hid (by rw [hKC]; exact HBo.out.tx.lt)
      clear hk3 hz3 HCl
      obtain ⟨ad, rfl, hadw⟩ := HRi.out.2 (by omega)
      obtain ⟨a0, a1, a2, a3⟩ := (HRi.out.next HB3.out).four hlt.1
      have q0 := HBx3.out.cell 0; have q1 := HBx3.out.cell 1
      have HDo := Lib.hid (fun W (hW : Below w3.heap.size w3 W) => do_any K A c T lk l[k] W (HBo3.out.next hW) ((HU.out.next HB3.out).next hW) HFK.out)
      have hbA : Below w3.heap.size w3 (w3.alloc (.cells #[.slice none 0 0, .bool false] 29)) := (Below.refl _ _).alloc (Nat.le_refl _) _
      obtain ⟨b0, b1, b2, b3⟩ := (HRi.out.next (HB3.out.trans (hbA.mono HB3.out.size))).four hlt.1
      have p0 := (HBx3.out.next hbA).cell 0; have p1 := (HBx3.out.next hbA).cell 1
      generalize l[k] = a at *
      obtain ⟨ak, acl, alo, adt⟩ := a
      unfold Ak.val at HDo
      simp only at a0 a1 a2 a3 b0 b1 b2 b3 HDo
      obtain ⟨R, hR⟩ : ∃ R, R = actU T lk ⟨ak, acl, alo, adt⟩ := ⟨_, rfl⟩
      have HSh := Lib.hid (actU_short T lk ⟨ak, acl, alo, adt⟩ HBo.out.short)
      have HSm := Lib.hid (actU_small T lk ⟨ak, acl, alo, adt⟩ HUS.out)
      rw [← hR] at HDo HSh HSm
      replace hR := Lib.hid hR
      obtain ⟨T', lk'⟩ := R
      simp only at HDo HSh HSm
      clear hb3 hbA
      --#4
      go_upto_region 9 with fail
      rw [← hKC]
      replace hKC := Lib.hid hKC
      go_region_law
        (go_simp; go_at_call 8; refine (HDo.out _ (by first | exact Below.refl _ _ | exact (Below.refl _ _).drew | exact (Below.refl _ _).alloc (Nat.le_refl _) _ | exact ((Below.refl _ _).drew).alloc (Nat.le_refl _) _ | exact ((Below.refl _ _).alloc (Nat.le_refl _) _).drew)).mono ?_; rintro e w2 ⟨A', c', rfl, hbo2, hfa2, hg2⟩; have HBo2 := Lib.hid hbo2; have HFa2 := Lib.hid hfa2; have HG2 : Hid (w3.grownBy w2 (some K)) := Lib.hid (by first | exact hg2 | exact grown_join (grown_b ((Below.refl _ w3).drew) (Nat.le_refl _)) hg2 | exact grown_join (grown_b (((Below.refl _ w3).drew).alloc (Nat.le_refl _) _) (Nat.le_refl _)) hg2 | exact grown_join (grown_b ((Below.refl _ w3).alloc (Nat.le_refl _) _) (Nat.le_refl _)) hg2 | exact grown_join (grown_b (((Below.refl _ w3).alloc (Nat.le_refl _) _).drew) (Nat.le_refl _)) hg2); clear q0 q1 a0 a1 a2 a3 b0 b1 b2 b3 p0 p1; try (have hbx2 : Blk w2 w3.heap.size 29 #[.slice none 0 0, .bool false] := (by first | exact Blk.grown (w := (w3.alloc (.cells #[.slice none 0 0, .bool false] 29)).drew) (show Blk (w3.alloc (.cells #[.slice none 0 0, .bool false] 29)) _ _ _ from Blk.new w3 _ _) hg2 (fun e => by injection e with e; omega) | exact (Blk.new w3 _ _).grown hg2 (fun e => by injection e with e; omega) | exact (Blk.new (World.drew w3) _ _).grown hg2 (fun e => by injection e with e; have h4 : (World.drew w3).heap.size = w3.heap.size := rfl; omega)); have r0 := hbx2.cell 0; have r1 := hbx2.cell 1; have g0 := hbx2.frozen 0; have g1 := hbx2.frozen 1))
      --#5
      all_goals
        simp only [Act.put, List.getElem_toArray, List.getElem_cons_succ, List.getElem_cons_zero, List.setIfInBounds_toArray, List.set_cons_zero, List.set_cons_succ]
        have hpm : PlayM w w2 K KC A A' c T T' lk lk' := playM_mid HBo2.out HFa2.out (by first | exact Nat.le_refl _ | exact Nat.le_trans (Nat.le_succ _) (Nat.le_of_eq (World.size_alloc w3 _).symm)) HG2.out HBx3.out HC3.out HBo3.out HFa.out HAK.out HB3.out hKw hKC2 hs3
        first
          | (have hbn := keyBlk2 hbx2 (.slice A' (listU T').length c') (.bool lk')
             have hpn := (hpm.set w3.heap.size 0 (by omega) (by omega) (by omega) HB3.out.size (play_far HFa2.out (Nat.lt_of_lt_of_eq (Nat.lt_succ_self _) (World.size_alloc w3 _).symm) HAK.out hs3) (fun hn ad e => by have := HAK.out hn ad e; omega) (.slice A' (listU T').length c')).set w3.heap.size 1 (by omega) (by omega) (by omega) HB3.out.size (play_far HFa2.out (Nat.lt_of_lt_of_eq (Nat.lt_succ_self _) (World.size_alloc w3 _).symm) HAK.out hs3) (fun hn ad e => by have := HAK.out hn ad e; omega) (.bool lk')
             generalize ((w2.setCell ⟨w3.heap.size, 0, none⟩ (.slice A' (listU T').length c')).setCell ⟨w3.heap.size, 1, none⟩ (.bool lk')) = W4 at *
             clear hbx2 r0 r1 g0 g1)
          | (have hbn := Blk.new w2 29 #[.slice A' (listU T').length c', .bool lk']
             have hpn := hpm.next ((Below.refl _ w2).alloc (Nat.le_refl _) (.cells #[.slice A' (listU T').length c', .bool lk'] 29))
             generalize (w2.alloc (.cells #[.slice A' (listU T').length c', .bool lk'] 29)) = W4 at *)
        have HBn := Lib.hid hbn; have HPn := Lib.hid hpn
        have HNm := Lib.hid (fun W (hW : Below W4.heap.size W4 W) => ((HU.out.next HPn.out.low).next hW).2.2)
        have H1 := Lib.hid (fun W (hW : Below W4.heap.size W4 W) => is_any K A' c' T' lk' W (HPn.out.now.next hW) (HNm.out W hW) HSm.out)
        have H2 := Lib.hid (fun W (hW : Below W4.heap.size W4 W) => is_any KC A c T lk W (HPn.out.was.next hW) (HNm.out W hW) HUS.out)
        have H3 := Lib.hid (fun W (hW : Below W4.heap.size W4 W) => sameU_any K KC T' lk' T lk W (HPn.out.now.next hW).key (HPn.out.was.next hW).key)
        have H4 := Lib.hid (fun W (hW : Below W4.heap.size W4 W) => refSame_any A' c' (listU T') lk' A c (listU T) lk (by have := listF_len T' 0; have := HPn.out.now.key.2; unfold listU; omega) (by have := listF_len T 0; have := HPn.out.was.key.2; unfold listU; omega) W (HPn.out.now.next hW).tx (HPn.out.was.next hW).tx)
        rw [same_both T T' lk lk' HPn.out.was.key.2 HPn.out.now.key.2] at H4
        obtain ⟨q, hq⟩ : ∃ q, q = decide (T' = T ∧ lk' = lk) := ⟨_, rfl⟩
        rw [← hq] at H3 H4
        clear hq hbn hpn hpm hadw HBo2 HFa2 HG2 HBx3 HC3 HBo3 HDo hR HAK HB3 HBo HBx HFa HB HNm hs3
        --#6
        go_upto_region 10 with fail
        refine wp_region_mix_lit (by kernel_rfl) [(4, .call (.bool true)), (10, .call (.bool true)), (15, .call (.bool q)), (18, .call (.bool q))] (by kernel_rfl) (by kernel_rfl) (by kernel_rfl) (by rfl) (by simp [apartK] <;> omega) (by simp [startK]) (by simp only [List.forall_mem_cons]; exact ⟨trivial, trivial, trivial, trivial, by simp⟩) (⟨fun _ => undef, by simp only [List.forall_mem_cons]; exact ⟨trivial, trivial, trivial, trivial, by simp⟩⟩) (fun β hβ => ?_)
        refine lex_val (v := ?_) rfl rfl (fun w' hf => ?_) ?_
        rotate_left
        · go_simp
          try rfl
        try simp only [Act.put, List.setIfInBounds_toArray, List.set_cons_zero, List.set_cons_succ]
        refine lex_val (v := .bool false) rfl rfl (fun w' hf => ?_) ?_
        · go_simp
          try rfl
        try simp only [Act.put, List.setIfInBounds_toArray, List.set_cons_zero, List.set_cons_succ]
        refine lex_val (v := ?_) rfl rfl (fun w' hf => ?_) ?_
        rotate_left
        · go_simp
          try rfl
        try simp only [Act.put, List.setIfInBounds_toArray, List.set_cons_zero, List.set_cons_succ]
        refine lex_val (v := ?_) rfl rfl (fun w' hf => ?_) ?_
        rotate_left
        · have hb := HBn.out.next hf.only.below0; have x0 := hb.cell 0; have x1 := hb.cell 1; go_simp
          try rfl
        try simp only [Act.put, List.setIfInBounds_toArray, List.set_cons_zero, List.set_cons_succ]
        --#7
        refine lex_call (f := 9) (args := ?_) rfl rfl (fun w' hf => ?_) (fun w' hf => ?_) ?_
        rotate_left
        · go_simp
          try rfl
        · exact H1.out w' hf.only.below0
        try simp only [Act.put, List.setIfInBounds_toArray, List.set_cons_zero, List.set_cons_succ]
        refine lex_val (v := .bool false) rfl rfl (fun w' hf => ?_) ?_
        · go_simp
          try rfl
        try simp only [Act.put, List.setIfInBounds_toArray, List.set_cons_zero, List.set_cons_succ]
        refine lex_val (v := ?_) rfl rfl (fun w' hf => ?_) ?_
        rotate_left
        · go_simp
          try rfl
        try simp only [Act.put, List.setIfInBounds_toArray, List.set_cons_zero, List.set_cons_succ]
        refine lex_val (v := ?_) rfl rfl (fun w' hf => ?_) ?_
        rotate_left
        · go_simp
          try rfl
        try simp only [Act.put, List.setIfInBounds_toArray, List.set_cons_zero, List.set_cons_succ]
        refine lex_val (v := ?_) rfl rfl (fun w' hf => ?_) ?_
        rotate_left
        · go_simp
          try rfl
        try simp only [Act.put, List.setIfInBounds_toArray, List.set_cons_zero, List.set_cons_succ]
        refine lex_val (v := ?_) rfl rfl (fun w' hf => ?_) ?_
        rotate_left
        · have hb := HPn.out.old.next hf.only.below0; have x0 := hb.cell 0; have x1 := hb.cell 1; go_simp
          try rfl
        try simp only [Act.put, List.setIfInBounds_toArray, List.set_cons_zero, List.set_cons_succ]
        --#8
        refine lex_call (f := 9) (args := ?_) rfl rfl (fun w' hf => ?_) (fun w' hf => ?_) ?_
        rotate_left
        · go_simp
          try rfl
        · exact H2.out w' hf.only.below0
        try simp only [Act.put, List.setIfInBounds_toArray, List.set_cons_zero, List.set_cons_succ]
        refine lex_val (v := .bool false) rfl rfl (fun w' hf => ?_) ?_
        · go_simp
          try rfl
        try simp only [Act.put, List.setIfInBounds_toArray, List.set_cons_zero, List.set_cons_succ]
        refine lex_val (v := ?_) rfl rfl (fun w' hf => ?_) ?_
        rotate_left
        · go_simp
          try rfl
        try simp only [Act.put, List.setIfInBounds_toArray, List.set_cons_zero, List.set_cons_succ]
        refine lex_val (v := ?_) rfl rfl (fun w' hf => ?_) ?_
        rotate_left
        · go_simp
          try rfl
        try simp only [Act.put, List.setIfInBounds_toArray, List.set_cons_zero, List.set_cons_succ]
        refine lex_val (v := ?_) rfl rfl (fun w' hf => ?_) ?_
        rotate_left
        · go_simp
          try rfl
        try simp only [Act.put, List.setIfInBounds_toArray, List.set_cons_zero, List.set_cons_succ]
        --#9
        refine lex_call (f := 10) (args := ?_) rfl rfl (fun w' hf => ?_) (fun w' hf => ?_) ?_
        rotate_left
        · go_simp
          try rfl
        · exact H3.out w' hf.only.below0
        try simp only [Act.put, List.setIfInBounds_toArray, List.set_cons_zero, List.set_cons_succ]
        refine lex_val (v := ?_) rfl rfl (fun w' hf => ?_) ?_
        rotate_left
        · have hb := HBn.out.next hf.only.below0; have x0 := hb.cell 0; have x1 := hb.cell 1; go_simp
          try rfl
        try simp only [Act.put, List.setIfInBounds_toArray, List.set_cons_zero, List.set_cons_succ]
        refine lex_val (v := ?_) rfl rfl (fun w' hf => ?_) ?_
        rotate_left
        · have hb := HPn.out.old.next hf.only.below0; have x0 := hb.cell 0; have x1 := hb.cell 1; go_simp
          try rfl
        try simp only [Act.put, List.setIfInBounds_toArray, List.set_cons_zero, List.set_cons_succ]
        --#A
        refine lex_call (f := 11) (args := ?_) rfl rfl (fun w' hf => ?_) (fun w' hf => ?_) ?_
        rotate_left
        · go_simp
          try rfl
        · exact H4.out w' hf.only.below0
        try simp only [Act.put, List.setIfInBounds_toArray, List.set_cons_zero, List.set_cons_succ]
        refine lex_val (v := .bool false) rfl rfl (fun w' hf => ?_) ?_
        · go_simp
          try rfl
        try simp only [Act.put, List.setIfInBounds_toArray, List.set_cons_zero, List.set_cons_succ]
        repeat (
          refine lex_val (v := ?_) rfl rfl (fun w' hf => ?_) ?_
          rotate_left
          · go_simp
            try rfl
          try simp only [Act.put, List.setIfInBounds_toArray, List.set_cons_zero, List.set_cons_succ])
        refine lex_nil fun w' he => ?_
        --#B
        have hb5 := he.only.below0
        clear he
        have HP5 := Lib.hid (HPn.out.next hb5)
        have x0 := (HBn.out.next hb5).cell 0; have x1 := (HBn.out.next hb5).cell 1
        have r0 := HP5.out.old.cell 0; have r1 := HP5.out.old.cell 1; have g0 := HP5.out.old.frozen 0; have g1 := HP5.out.old.frozen 1
        have HBx6 := Lib.hid (keyBlk2 HP5.out.old (.slice A' (listU T').length c') (.bool lk'))
        have HBo6 := Lib.hid ((HP5.out.now.set (K + 1) 0 (by omega) HP5.out.far (.slice A' (listU T').length c')).set (K + 1) 1 (by omega) HP5.out.far (.bool lk'))
        have HB6 := Lib.hid ((HP5.out.low.setCell (p := ⟨K + 1, 0, none⟩) (by show w.heap.size ≤ K + 1; omega) (.slice A' (listU T').length c')).setCell (p := ⟨K + 1, 1, none⟩) (by show w.heap.size ≤ K + 1; omega) (.bool lk'))
        have hks6 : K + 2 ≤ ((w'.setCell ⟨K + 1, 0, none⟩ (.slice A' (listU T').length c')).setCell ⟨K + 1, 1, none⟩ (.bool lk')).heap.size := by rw [setCell_size, setCell_size]; exact HP5.out.big
        clear hb5 H1 H2 H3 H4
        go_wp2_with fail
        go_roundw
        case rel => exact ⟨k + 1, T', lk', A', c', by omega, by omega, by go_num, HBo6.out, HBx6.out, HP5.out.far, HB6.out, hks6, HSm.out⟩
        case measure => simp [intOf]; omega
    · have hg : (((k : Int) < (l.length : Int)) = True ∧ ((k : Int) < 20) = False) ∨ ((k : Int) < (l.length : Int)) = False := by
        by_cases h : k < l.length
        · exact .inl ⟨eq_true (by omega), eq_false (by omega)⟩
        · exact .inr (eq_false (by omega))
      have HGt := Lib.hid (uGet_any K T lk key wr HBo.out.key (HU.out.next HB.out).2.2)
      have HRt := Lib.hid (refGet_any A c (listU T) (by have := listF_len T 0; have := HBo.out.key.2; unfold listU; omega) lk key wr HBo.out.tx)
      rw [get_same T HBo.out.key.2] at HRt
      have q0 := HBx.out.cell 0; have q1 := HBx.out.cell 1
      generalize getU T key = gg at *
      obtain ⟨gs, gb⟩ := gg
      simp only at HGt HRt
      clear hlt hkl hk8 HRi HBx HFa HBo hus
      --#C
      rcases hg with ⟨m1, m2⟩ | m1
      all_goals
        go_wp2_with fail
        refine HGt.out.mono ?_
        rintro e w5 ⟨rfl, rfl⟩
        go_wp2_with fail
        refine HRt.out.mono ?_
        rintro e w6 ⟨rfl, hb6⟩
        have HBz := Lib.hid (HB.out.trans (hb6.mono HB.out.size))
        clear hb6 q0 q1
        go_wp2_with fail
        go_ret
        exact ⟨rfl, HBz.out⟩

set_option maxRecDepth 100000 in
/-- What the walk gives, for every argument and every world that holds the table. -/
theorem contract (H : Type) (enc : TypeId × Value → H) (W : World) (base : Nat) (args : Array Value) (ds gs : List (DataW H)) (before : List MemPlace)
    (hval : ∀ (j : Nat) t v, Tryd.f3.params[j]? = some t → args[j]? = some v → Value.okWide Tryd.prog W .any base t v)
    (hW : DataW.Whole enc Tryd.prog Tryd.f3.params.toList Rows.udkPlaysSpec.vars false W args.toList ds gs before) (hL : laidMetH Tryd.prog Rows.udkPlaysRow.laid W)
    (hreach : (DataW.weightsEach Tryd.prog (Tryd.f3.params.toList ++ []) (ds ++ gs)).all (· ≤ reachBytes) = true) :
    Calls Tryd.prog 3 args W fun e W' => ∃ v, e = .returned v ∧ Rows.udkPlaysSpec.post enc Tryd.prog Tryd.f3 false true false false W args v W' := by
  have hW' := hW
  have ht := envU hL
  have hlts : ∀ x ∈ before, x.block < W.heap.size := fun x hx => hW'.lt x hx
  obtain ⟨p, q, hA0, hV, rfl, hfz, hnd⟩ := hW
  have hA : DataW.TrodAll enc Tryd.prog W 0 (fun _ => true) true Tryd.f3.params.toList args.toList ds p := hA0
  rw [Tryd.params3] at hA hval hreach
  obtain ⟨v0, vs0, d0, ds0, pp0, qq0, hargs, rfl, rfl, h0, rr0⟩ := trodAll_cons hA
  obtain ⟨v1, vs1, d1, ds1, pp1, qq1, rfl, rfl, rfl, h1, rr1⟩ := trodAll_cons rr0
  obtain ⟨rfl, rfl, rfl⟩ := trodAll_nil rr1
  obtain rfl : args = #[v0, v1] := by cases args; simp_all
  obtain ⟨rfl, rfl⟩ := trodVars_none hV
  obtain ⟨b0, len0, cap0, rfl⟩ := okWide_slice Tryd.underlying22 (hval 0 22 v0 rfl rfl)
  obtain ⟨l0, hlen0, hm0, hri0⟩ := ak_in h0
  subst hlen0
  obtain ⟨a1, rfl, rfl, rfl, w1⟩ := open_int Tryd.underlying3 (hval 1 3 v1 rfl rfl) h1
  clear hA0
  refine (walk b0 cap0 l0 hm0 a1 W ht hri0).mono fun e W' ⟨he, hb⟩ => ?_
  subst he
  exact ⟨_, rfl, post_law laidOut (by kernel_rfl) (by kernel_rfl) rfl hW' rfl hb⟩

set_option maxRecDepth 100000 in
theorem laid_met (os : Os) : laidMet Tryd.prog Rows.udkPlaysRow.laid ((laidWorldU os).forCall (fun _ _ => 0) ⟨#[], #[Value.slice none 0 0, Value.int .i64 0], []⟩).memory :=
  laid_metU os _
set_option maxRecDepth 100000 in
theorem reads (os : Os) {H : Type} (enc : TypeId × Value → H) : ∃ places, DataW.whole enc Tryd.prog ((laidWorldU os).forCall (fun _ _ => 0) ⟨#[], #[Value.slice none 0 0, Value.int .i64 0], []⟩).memory Tryd.f3.params.toList Rows.udkPlaysSpec.vars false (#[Value.slice none 0 0, Value.int .i64 0] : Array Value).toList 8 = some ([.nil, .lit (.int .i64 0)], [], places) :=
  ⟨[], by kernel_rfl⟩

set_option maxRecDepth 100000 in
theorem lifted (os : Os) (started : os.Started) (H : Type) (enc : TypeId × Value → H) (F : Stop.Interp) :
    ReturnsInHanded {} Tryd.checked os 3 .any ((OpenSpec.ofChange Rows.udkPlaysSpec).preRow enc Tryd.prog Tryd.f3 Rows.udkPlaysRow.domain false Rows.udkPlaysRow.laid) (((OpenSpec.ofChange Rows.udkPlaysSpec).at F).post enc Tryd.prog Tryd.f3 false true false false) := by
  obtain ⟨places, hx⟩ := reads os enc
  refine returnsInHanded_of_row (C := Tryd.checked) (s := OpenSpec.ofChange Rows.udkPlaysSpec) own started (by kernel_rfl) Tryd.func3
    (witness_row_atRef (enc := enc) (C := Tryd.checked) false (laidWorldU os) #[Value.slice none 0 0, Value.int .i64 0] rfl (by kernel_rfl) (by kernel_rfl) (by kernel_rfl)
      (OpenSpec.preRow_of_cond 8 hx (by kernel_rfl) (fun k hk => by cases hk) (by kernel_rfl) (laid_met os))) ?_
  intro W base args ds gs before hval hW _ _ hreach hL _ _
  exact contract H enc W base args ds gs before hval hW hL hreach

theorem said : Rows.UdkPlaysSaid :=
  OpenClaim.holds_of_cond 3 Tryd.f3 rfl rfl rfl rfl rfl rfl rfl ⟨rfl, rfl, rfl, rfl, rfl⟩ rfl rfl rfl rfl rfl (by kernel_rfl) Tryd.func3 (by kernel_rfl)
    (of_decide_eq_true (by kernel_rfl)) (by unfold Func.isWrapper; first | (rw [if_pos (by decide +kernel)]; kernel_rfl) | (rw [if_neg (by decide +kernel)]; exact ⟨rfl, rfl⟩))
    (fun os started H enc _ F => by rw [OpenClaim.pre_eq_preRow]; exact lifted os started H enc F)

theorem plain (f : FuncId) (fn : Func) (hf : Tryd.pinned.checked.prog.funcNamed "phosphor/phosphorlaw21.UdkPlays" = some f) (hfn : Tryd.pinned.checked.prog.funcs[f]? = some fn) :
    true = Tryd.pinned.checked.prog.looks [] ∧ ∀ (j : Nat) t, fn.params[j]? = some t → Tryd.pinned.checked.prog.wantsStandIn t = false := by
  obtain rfl : f = 3 := Option.some.inj ((show Tryd.prog.funcNamed "phosphor/phosphorlaw21.UdkPlays" = some 3 by kernel_rfl).symm.trans hf) |>.symm
  obtain rfl : fn = Tryd.f3 := (Option.some.inj (Tryd.func3.symm.trans hfn)).symm
  refine ⟨by kernel_rfl, fun j t ht => ?_⟩
  rw [Tryd.params3] at ht
  have hm : t ∈ [22, 3] := by simpa using Array.mem_of_getElem? ht
  have hall : ([22, 3].all fun u => !Tryd.prog.wantsStandIn u) = true := by kernel_rfl
  exact (show Tryd.prog.wantsStandIn t = false by simpa using List.all_eq_true.1 hall t hm)

/-- The card. -/
theorem card : Rows.UdkPlaysCardSaid :=
  Claim7.holds_tied_plain_at .later [] _ _ _ _ said (fun _ h => by cases h) (by kernel_rfl) (fun _ h => by cases h) udkPlays_row_tie rfl ⟨rfl, rfl⟩ (by kernel_rfl) rfl plain (by kernel_rfl)
#print axioms card
end Go.Proofs.YtlhabooeeohniaaDoor.udkPlays

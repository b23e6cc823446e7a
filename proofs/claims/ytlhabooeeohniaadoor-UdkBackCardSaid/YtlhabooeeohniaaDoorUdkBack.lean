/-
  UdkBack holds, whatever the input: the card of the statement, with the library's tables, its two errors and the keys' numbers tied to the program's text.
-/
import Derived.Test.YtlhabooeeohniaaDoorCards
import Derived.Test.YtlhabooeeohniaaDoorTie
import Derived.Test.YtlhabooeeohniaaDoorFrameUd
import Derived.Test.YtlhabooeeohniaaDoorUdkP
import Derived.Test.YtlhabooeeohniaaDoorFrameUa
namespace Go.Proofs.YtlhabooeeohniaaDoor.udkBack
open Go.ChangeShapes Go.WideShapes Go.ChangeAt Go.RowKit
open Go.ChangeMaps (open_string)

set_option maxRecDepth 100000 in
set_option maxHeartbeats 16000000 in
theorem walk (B0 : Option Addr) (cap0 : Nat) (l : List Ak) (_hm : l.length ≤ maxLen) (key : Int) (s2 : ByteArray) (_hs : s2.size ≤ maxLen) (w : World) (hu : UEnv w) (hri : RAk w B0 l) :
    Calls Tryd.prog 5 #[.slice B0 l.length cap0, .int .i64 key, .string s2] w fun e w' => e = .returned (.bool true) ∧ Below w.heap.size w w' := by
  have HAw := Lib.hid (udkAwake_any w hu)
  have HU := Lib.hid hu
  have HRi := Lib.hid hri
  clear hu hri _hm _hs
  go_enter Tryd.func5, Tryd.ntmps5
  go_wp2_with fail
  refine HAw.out.mono ?_
  rintro e w1 ⟨rfl, hb⟩
  have HB1 := Lib.hid hb
  clear hb HAw
  --#1
  go_upto_region 6 with fail
  rw [zero_keys]
  obtain ⟨K, hK⟩ : ∃ K, K = w1.heap.size := ⟨_, rfl⟩
  have hk0 := (KeyB.new w1 noT false rfl)
  have b0 := Blk.new (w1.alloc (.cells (keyC noT false) 26)) 29 #[.slice none 0 0, .bool false]
  rw [World.size_alloc] at b0
  have hB2 : Below w.heap.size w ((w1.alloc (.cells (keyC noT false) 26)).alloc (.cells #[.slice none 0 0, .bool false] 29)) := (HB1.out.alloc HB1.out.size _).alloc (by have := HB1.out.size; simp; omega) _
  have hBo : Both ((w1.alloc (.cells (keyC noT false) 26)).alloc (.cells #[.slice none 0 0, .bool false] 29)) K none noT false := ⟨by rw [hK]; exact hk0.next ((Below.refl _ _).alloc (Nat.le_refl _) _), Reads.none_, fun _ ad e => (by cases e), noT_short⟩
  have hKw : w.heap.size ≤ K := by rw [hK]; exact HB1.out.size
  have hKs : K + 2 ≤ ((w1.alloc (.cells (keyC noT false) 26)).alloc (.cells #[.slice none 0 0, .bool false] 29)).heap.size := by rw [hK]; simp
  rw [← hK] at b0 ⊢
  generalize ((w1.alloc (.cells (keyC noT false) 26)).alloc (.cells #[.slice none 0 0, .bool false] 29)) = W0 at *
  have HFK : Hid (FarU K) := Lib.hid (FarU.new HU.out hKw)
  have HB0 := Lib.hid b0; have HB2 := Lib.hid hB2; have HBo := Lib.hid hBo
  clear hk0 b0 hB2 hBo hK HB1
  --#2
  go_loopw [9] (fun i wr => ∃ (k : Nat) (T : List ByteArray) (lk : Bool) (A : Option Addr) (c : Nat), k ≤ l.length ∧ k ≤ 8 ∧ i = .int .i64 k ∧ Both wr K A T lk ∧ Blk wr (K + 1) 29 #[.slice A (listU T).length c, .bool lk] ∧ (0 < (listU T).length → ∀ ad, A = some ad → ad.block ≠ K + 1) ∧ Below w.heap.size w wr ∧ K + 2 ≤ wr.heap.size) (fun i _ => l.length - (intOf i).toNat)
  case atStart => exact ⟨0, noT, false, none, 0, by omega, by omega, rfl, HBo.out, HB0.out, fun _ ad e => (by cases e), HB2.out, hKs⟩
  case round =>
    obtain ⟨k, T, lk, A, c, hkl, hk8, rfl, hbo, hbx, hfa, hb, hks⟩ := hrel
    have HBo := Lib.hid hbo; have HBx := Lib.hid hbx; have HFa := Lib.hid hfa; have HB := Lib.hid hb
    have hwk : IntKind.i64.wrap ((k : Int) + 1) = (k : Int) + 1 := IntWalk.i64_in _ (by omega)
    clear hbo hbx hfa hb HB0 HB2 hKs
    by_cases hlt : k < l.length ∧ k < 8
    · have m1 : ((k : Int) < (l.length : Int)) = True := eq_true (by omega)
      have m2 : ((k : Int) < 8) = True := eq_true (by omega)
      have m3 : (0 : Int) ≤ (k : Int) := by omega
      obtain ⟨ad, rfl, hadw⟩ := HRi.out.2 (by omega)
      obtain ⟨a0, a1, a2, a3⟩ := (HRi.out.next HB.out).four hlt.1
      have q0 := HBx.out.cell 0; have q1 := HBx.out.cell 1
      have HDo := Lib.hid (fun W (hW : Below wr.heap.size wr W) => do_any K A c T lk l[k] W (HBo.out.next hW) ((HU.out.next HB.out).next hW) HFK.out)
      generalize l[k] = a at *
      obtain ⟨ak, acl, alo, adt⟩ := a
      unfold Ak.val at HDo
      simp only at a0 a1 a2 a3 HDo
      obtain ⟨R, hR⟩ : ∃ R, R = actU T lk ⟨ak, acl, alo, adt⟩ := ⟨_, rfl⟩
      have HSh := Lib.hid (actU_short T lk ⟨ak, acl, alo, adt⟩ HBo.out.short)
      rw [← hR] at HDo HSh
      replace hR := Lib.hid hR
      obtain ⟨T', lk'⟩ := R
      simp only at HDo HSh
      --#3
      go_upto_region 8 with fail
      go_region_law
        (go_simp; go_at_call 8; refine (HDo.out _ (by first | exact Below.refl _ _ | exact (Below.refl _ _).drew)).mono ?_; rintro e w2 ⟨A', c', rfl, hbo2, hfa2, hg2⟩; have HBo2 := Lib.hid hbo2; have HFa2 := Lib.hid hfa2; have HG2 : Hid (wr.grownBy w2 (some K)) := Lib.hid (by first | exact hg2 | exact grown_join (grown_b ((Below.refl _ wr).drew) (Nat.le_refl _)) hg2); clear hbo2 hfa2 hg2 q0 q1 a0 a1 a2 a3; have hbx2 := HBx.out.grown HG2.out (fun e => by injection e with e; omega); have r0 := hbx2.cell 0; have r1 := hbx2.cell 1; have g0 := hbx2.frozen 0; have g1 := hbx2.frozen 1)
      --#4
      all_goals
        have HBx3 := Lib.hid (keyBlk2 hbx2 (.slice A' (listU T').length c') (.bool lk'))
        have hfa3 : 0 < (listU T').length → ∀ ad, A' = some ad → ad.block ≠ K + 1 := fun hn ad e => by
          rcases HFa2.out with ⟨h1, h2⟩ | h
          · exact HFa.out (by rw [← h2]; exact hn) ad (by rw [← h1]; exact e)
          · have h3 := h ad e
            have h4 : (World.drew wr).heap.size = wr.heap.size := rfl
            omega
        have HBo3 := Lib.hid ((HBo2.out.set (K + 1) 0 (by omega) hfa3 (.slice A' (listU T').length c')).set (K + 1) 1 (by omega) hfa3 (.bool lk'))
        have HB3 := Lib.hid (((HB.out.trans (below_of_grown HG2.out HB.out.size hKw)).setCell (p := ⟨K + 1, 0, none⟩) (by show w.heap.size ≤ K + 1; omega) (.slice A' (listU T').length c')).setCell (p := ⟨K + 1, 1, none⟩) (by show w.heap.size ≤ K + 1; omega) (.bool lk'))
        have hks3 : K + 2 ≤ ((w2.setCell ⟨K + 1, 0, none⟩ (.slice A' (listU T').length c')).setCell ⟨K + 1, 1, none⟩ (.bool lk')).heap.size := by rw [setCell_size, setCell_size]; have := HG2.out.size; omega
        have HFa3 := Lib.hid hfa3
        clear hfa3 hbx2
        go_wp2_with fail
        go_roundw
        case rel => exact ⟨k + 1, T', lk', A', c', by omega, by omega, by go_num, HBo3.out, HBx3.out, HFa3.out, HB3.out, hks3⟩
        case measure => simp [intOf]; omega
    · have HEx : Hid (¬ (k < l.length ∧ k < 8)) := Lib.hid hlt
      obtain ⟨t, ht⟩ : ∃ t, t = if 40 < s2.size then s2.extract 0 40 else s2 := ⟨_, rfl⟩
      have htz : t.size ≤ 40 := by
        rw [ht]
        split
        · rw [ByteArray.size_extract]; omega
        · omega
      have hts : (decide ((40 : Int) < (s2.size : Int)) = true ∧ (40 : Int) ≤ (s2.size : Int) ∧ s2.extract 0 40 = t) ∨ (decide ((40 : Int) < (s2.size : Int)) = false ∧ s2 = t) := by
        by_cases h : 40 < s2.size
        · rw [ht, if_pos h]; exact .inl ⟨decide_eq_true (by omega), by omega, rfl⟩
        · rw [ht, if_neg h]; exact .inr ⟨decide_eq_false (by omega), rfl⟩
      have hg : (((k : Int) < (l.length : Int)) = True ∧ ((k : Int) < 8) = False) ∨ ((k : Int) < (l.length : Int)) = False := by
        by_cases h : k < l.length
        · exact .inl ⟨eq_true (by omega), eq_false (by omega)⟩
        · exact .inr (eq_false (by omega))
      replace hts := Lib.hid hts
      clear ht hlt hkl hk8 HRi HBx HFa
      --#5
      rcases hg with ⟨m1, m2⟩ | m1
      all_goals
        go_upto_region 9 with fail
        clear HEx hwk
        have HK := Lib.hid HBo.out.key
        have HSt := Lib.hid HBo.out.short
        clear HBo
        --#6
        go_upto_if 40 with fail
        go_cut [2] (fun v wx => v = .string t ∧ wr = wx)
        case first =>
          rcases hts.out with ⟨m1, m2, m3⟩ | ⟨m1, m3⟩
          · go_wp2_with fail
            all_goals first
              | (go_meet; exact ⟨rfl, rfl⟩)
              | (exfalso; have := of_decide_eq_true m1; omega)
          · subst m3
            go_wp2_with fail
            all_goals first
              | (go_meet; exact ⟨rfl, rfl⟩)
              | (exfalso; have := of_decide_eq_false m1; omega)
        case rest =>
        obtain ⟨rfl, rfl⟩ := hcut
        clear hts
        have HLk := Lib.hid (lock_any K T lk false wr HK.out)
        --#7
        go_wp2_with fail
        refine HLk.out.mono ?_
        rintro e w3 ⟨⟨_, rfl⟩, hk3, hg3⟩
        have HK3 := Lib.hid hk3
        have HB3 := Lib.hid (HB.out.trans (below_of_grown hg3 HB.out.size hKw))
        have hK3 : K < w3.heap.size := Nat.lt_of_lt_of_le (by omega) hg3.size
        clear hk3 hg3 HLk HK HB
        have HCl := Lib.hid (cloneU_any K T false w3 HK3.out)
        go_wp2_with fail
        refine HCl.out.mono ?_
        rintro e w4 ⟨rfl, hk4, hb4, hz4⟩
        obtain ⟨K2, hK2⟩ : ∃ K2, K2 = w3.heap.size := ⟨_, rfl⟩
        rw [← hK2] at hk4 ⊢
        have HK4 := Lib.hid (HK3.out.next hb4)
        have HC4 := Lib.hid hk4
        have HB4 := Lib.hid (HB3.out.trans (hb4.mono HB3.out.size))
        have hKK : K ≠ K2 := by omega
        replace hK2 := Lib.hid hK2
        clear hk4 hb4 hz4 HCl HK3 HB3
        have HIs := Lib.hid (fun W => isU_any key W)
        --#8
        go_wp2_with fail
        refine (HIs.out _).mono ?_
        rintro e w5 ⟨rfl, rfl⟩
        rcases hu : isU key with _ | _
        · go_wp2_with fail
          go_ret
          exact ⟨rfl, HB4.out⟩
        · obtain ⟨kk, hkk, hkey, hplc⟩ := isU_key key hu
          replace hkey := Lib.hid hkey
          clear hplc
          have HSp := Lib.hid (space_any K T false w4 HK4.out HSt.out.used)
          --#9
          go_wp2_with fail
          refine HSp.out.mono ?_
          rintro e w6 ⟨rfl, rfl⟩
          by_cases hfit : (804 : Int) - (usedT T : Int) < (t.size : Int)
          · have m1 : ((804 : Int) - (usedT T : Int) < (t.size : Int)) = True := eq_true hfit
            clear hfit hu hkey
            go_wp2_with fail
            go_ret
            exact ⟨rfl, HB4.out⟩
          · have m1 : ((804 : Int) - (usedT T : Int) < (t.size : Int)) = False := eq_false hfit
            have HBd := Lib.hid (back_def T kk hkk t (by omega))
            obtain ⟨g1, g2, g3, _⟩ := nthU_digits kk hkk
            obtain ⟨n, hn⟩ : ∃ n : Nat, n = (nthU kk).toNat := ⟨_, rfl⟩
            rw [← hn] at g1 g2 HBd
            have hkn : key = (n : Int) := by rw [hkey.out, g3, hn]
            have hget : ∀ m : Nat, m < 40 → (getU (T.set kk t) m).1 = if (m : Int) = (n : Int) then t else (getU T m).1 := fun m hm => by
              have := getU_set T HSt.out.1 kk hkk t m hm
              rwa [g3, ← hn] at this
            have HGet := Lib.hid hget
            have HSt2 : Hid (ShortT (T.set kk t)) := Lib.hid (short_set HSt.out kk t (by omega))
            subst hkn
            have hX := fun W => hexS_any t (by omega) W
            have hlx : (hexL (natL t.data.toList)).length ≤ 80 := by rw [hex_len, natB_len]; omega
            obtain ⟨T2, hT2⟩ : ∃ T2, T2 = T.set kk t := ⟨_, rfl⟩
            rw [← hT2] at HBd HGet HSt2
            have hdz : (bstr (dataU n (nb t))).size ≤ 100000 := by rw [bstr_size]; unfold dataU nb; simp; omega
            have hdn : nb (bstr (dataU n (nb t))) = dataU n (nb t) := nb_bstr _ (data_lt n (by omega) t)
            have HD := Lib.hid (fun W k u => define_any K T false false false (bstr (dataU n (nb t))) hdz W k HSt.out u HFK.out)
            rw [hdn, HBd.out] at HD
            have hda : dataU n (nb t) = [48 + n / 10, 48 + n % 10, 47] ++ hexL (natL t.data.toList) := rfl
            have A1 : ∀ W, (Op.stringOp .add (bstr [48 + n / 10, 48 + n % 10, 47]) (bstr (hexL (natL t.data.toList)))).run Tryd.prog W = .ok (.string (bstr (dataU n (nb t)))) W := fun W => by
              rw [run_string_add_sum W _ _ (by rw [bstr_size, bstr_size]; simp; omega), ← bstr_append, hda]
            have e1 : IntKind.i64.wrap ((n : Int).tdiv 10) = ((n / 10 : Nat) : Int) := by
              rw [Int.tdiv_eq_ediv_of_nonneg (by omega)]; exact (IntWalk.i64_in _ (by omega)).trans (by omega)
            have e2 : (n : Int).tdiv 10 = ((n / 10 : Nat) : Int) := by rw [Int.tdiv_eq_ediv_of_nonneg (by omega)]; omega
            have e3 : (n : Int).tmod 10 = ((n % 10 : Nat) : Int) := by rw [Int.tmod_eq_emod_of_nonneg (by omega)]; omega
            obtain ⟨x, hx⟩ : ∃ x, x = 48 + n / 10 := ⟨_, rfl⟩
            obtain ⟨y, hy⟩ : ∃ y, y = 48 + n % 10 := ⟨_, rfl⟩
            have hx8 : x < 100 := by omega
            have hy8 : y < 100 := by omega
            have e4 : IntKind.i64.wrap (48 + ((n / 10 : Nat) : Int)) = (x : Int) := (IntWalk.i64_in _ (by omega)).trans (by omega)
            have e5 : IntKind.i64.wrap (48 + ((n % 10 : Nat) : Int)) = (y : Int) := (IntWalk.i64_in _ (by omega)).trans (by omega)
            have e6 : IntKind.u8.wrap (x : Int) = (x : Int) := IntWalk.u8_in _ (by omega)
            have e7 : IntKind.u8.wrap (y : Int) = (y : Int) := IntWalk.u8_in _ (by omega)
            have e8 : IntKind.i64.wrap (((n / 10 : Nat) : Int)) = ((n / 10 : Nat) : Int) := IntWalk.i64_in _ (by omega)
            have e9 : IntKind.i64.wrap (((n % 10 : Nat) : Int)) = ((n % 10 : Nat) : Int) := IntWalk.i64_in _ (by omega)
            rw [← hx, ← hy] at A1
            have HCv := Lib.hid (fun W g h => three_conv W g x y 47 h)
            have HX := Lib.hid hX
            have hn34 : n ≤ 34 := by omega
            clear hX hlx hdz hdn hda hfit hu hkey hn g1 g2 g3 hget hT2 hx hy
            generalize bstr (dataU n (nb t)) = dB at *
            generalize bstr (hexL (natL t.data.toList)) = xh at *
            generalize bstr [x, y, 47] = x3 at *
            generalize ((n / 10 : Nat) : Int) = nq at *
            generalize ((n % 10 : Nat) : Int) = nr at *
            --#10
            go_upto_region 15 with fail
            refine wp_region_mix_lit (by kernel_rfl) [(8, .letter B3P (B3F w4.heap.size x y 47)), (11, .call (.string xh))] (by kernel_rfl) (by kernel_rfl) (by kernel_rfl) (by rfl) (by simp [apartK] <;> omega) (by simp [startK]) (by simp only [List.forall_mem_cons]; exact ⟨b3F_stab _ _ _ _ _ (by simp [boxes, Kind.boxed]), trivial, by simp⟩) (⟨fun _ => .slice (some ⟨0, 0, none⟩) 3 3, by simp only [List.forall_mem_cons]; exact ⟨⟨0, rfl⟩, trivial, by simp⟩⟩) (fun β hβ => ?_)
            obtain ⟨g9, e99⟩ := (hβ 8 : B3P (β 8))
            repeat (
              refine lex_val (v := ?_) rfl rfl (fun w' hf => ?_) ?_
              rotate_left
              · go_simp
                try rfl
              try simp only [Act.put, List.setIfInBounds_toArray, List.set_cons_zero, List.set_cons_succ])
            --#11
            refine lex_made rfl rfl (fun w' hf => ⟨.slice (some ⟨w'.heap.size, 0, none⟩) 3 3, w'.alloc (.cells #[.int .u8 (x : Int), .int .u8 (y : Int), .int .u8 47] 5), ?_, ⟨_, rfl⟩, ⟨_, rfl, hf.only.size, Blk.new _ _ _⟩, (Below.refl _ _).alloc (Nat.le_refl _) _⟩) ?_
            · go_simp
            try simp only [Act.put, List.setIfInBounds_toArray, List.set_cons_zero, List.set_cons_succ]
            rw [e99]
            refine lex_val (v := .string x3) rfl rfl (fun w' hf => ?_) ?_
            · have h8 : B3F w4.heap.size x y 47 (β 8) w' := hf.got 8 _ _ rfl (by kernel_rfl)
              rw [e99] at h8
              obtain ⟨g8, e88, _, hB8⟩ := h8
              have e77 : g9 = g8 := by simpa using e88
              have hcv := HCv.out w' g9 (by rw [e77]; exact hB8)
              clear e88 e77 hB8 hf
              go_simp
            try simp only [Act.put, List.setIfInBounds_toArray, List.set_cons_zero, List.set_cons_succ]
            --#12
            repeat (
              refine lex_val (v := ?_) rfl rfl (fun w' hf => ?_) ?_
              rotate_left
              · go_simp
                try rfl
              try simp only [Act.put, List.setIfInBounds_toArray, List.set_cons_zero, List.set_cons_succ])
            refine lex_call (f := 19) (args := ?_) rfl rfl (fun w' hf => ?_) (fun w' hf => ?_) ?_
            rotate_left
            · go_simp
              try rfl
            · exact HX.out w'
            try simp only [Act.put, List.setIfInBounds_toArray, List.set_cons_zero, List.set_cons_succ]
            repeat (
              refine lex_val (v := ?_) rfl rfl (fun w' hf => ?_) ?_
              rotate_left
              · go_simp
                try rfl
              try simp only [Act.put, List.setIfInBounds_toArray, List.set_cons_zero, List.set_cons_succ])
            refine lex_nil fun w' he => ?_
            --#13
            have HB7 := Lib.hid (HB4.out.trans (he.only.below0.mono HB4.out.size))
            have HK7 := Lib.hid (HK4.out.next he.only.below0)
            have HC7 := Lib.hid (HC4.out.next he.only.below0)
            have HU7 := Lib.hid (HU.out.next HB7.out)
            clear he hβ HX HCv A1 e1 e2 e3 e4 e5 e6 e7 e8 e9 e99 HK4 HC4 HB4 HIs HSp hx8 hy8
            --#14
            go_wp2_with fail
            refine (HD.out w' HK7.out HU7.out).mono ?_
            rintro e w8 ⟨rfl, hk8, hg8⟩
            have HK8 := Lib.hid hk8
            have HC8 := Lib.hid (HC7.out.grown hg8 (fun e => hKK e.symm))
            have HB8 := Lib.hid (HB7.out.trans (below_of_grown hg8 HB7.out.size hKw))
            have HN8 := Lib.hid ((HU.out.next HB8.out).2.2)
            clear hk8 hg8 HD HK7 HC7 HB7 HU7
            --#15
            go_upto_region 19 with fail
            go_loopw [12] (fun i wr => ∃ m : Nat, m ≤ 40 ∧ i = .int .i64 m ∧ w8 = wr) (fun i _ => 40 - (intOf i).toNat)
            case atStart => exact ⟨0, by omega, rfl, rfl⟩
            case round =>
              obtain ⟨m, hm, rfl, rfl⟩ := hrel
              by_cases hlt2 : m < 40
              · have m5 : ((m : Int) < 40) = True := eq_true (by omega)
                have hwm : IntKind.i64.wrap ((m : Int) + 1) = (m : Int) + 1 := IntWalk.i64_in _ (by omega)
                have HGa := Lib.hid (uGet_any K T2 false m w8 HK8.out HN8.out)
                have HGb := Lib.hid (uGet_any K2 T false m w8 HC8.out HN8.out)
                have hg1 := HGet.out m hlt2
                generalize getU T2 (m : Int) = ga at *
                generalize getU T (m : Int) = gb at *
                obtain ⟨ga1, ga2⟩ := ga
                obtain ⟨gb1, gb2⟩ := gb
                simp only at HGa HGb hg1
                by_cases hmn : (m : Int) = (n : Int)
                · rw [if_pos hmn] at hg1
                  subst hg1
                  have m6 : ((m : Int) == (n : Int)) = true := by simpa using hmn
                  clear hmn
                  --#16
                  go_wp2_with (first | (with_reducible refine HGa.out.mono ?_; rintro e w9 ⟨rfl, rfl⟩) | (with_reducible refine HGb.out.mono ?_; rintro e w9 ⟨rfl, rfl⟩))
                  go_roundw
                  case rel => exact ⟨m + 1, by omega, by go_num, by first | rfl | trivial⟩
                  case measure => simp [intOf]; omega
                · rw [if_neg hmn] at hg1
                  subst hg1
                  have m6 : ((m : Int) == (n : Int)) = false := by simpa using hmn
                  clear hmn
                  --#17
                  go_wp2_with (first | (with_reducible refine HGa.out.mono ?_; rintro e w9 ⟨rfl, rfl⟩) | (with_reducible refine HGb.out.mono ?_; rintro e w9 ⟨rfl, rfl⟩))
                  go_roundw
                  case rel => exact ⟨m + 1, by omega, by go_num, by first | rfl | trivial⟩
                  case measure => simp [intOf]; omega
              · obtain rfl : m = 40 := by omega
                --#18
                go_wp2_with fail
                go_ret
                exact ⟨rfl, HB8.out⟩

set_option maxRecDepth 100000 in
/-- What the walk gives, for every argument and every world that holds the table. -/
theorem contract (H : Type) (enc : TypeId × Value → H) (W : World) (base : Nat) (args : Array Value) (ds gs : List (DataW H)) (before : List MemPlace)
    (hval : ∀ (j : Nat) t v, Tryd.f5.params[j]? = some t → args[j]? = some v → Value.okWide Tryd.prog W .any base t v)
    (hW : DataW.Whole enc Tryd.prog Tryd.f5.params.toList Rows.udkBackSpec.vars false W args.toList ds gs before) (hL : laidMetH Tryd.prog Rows.udkBackRow.laid W)
    (hreach : (DataW.weightsEach Tryd.prog (Tryd.f5.params.toList ++ []) (ds ++ gs)).all (· ≤ reachBytes) = true) :
    Calls Tryd.prog 5 args W fun e W' => ∃ v, e = .returned v ∧ Rows.udkBackSpec.post enc Tryd.prog Tryd.f5 false true false false W args v W' := by
  have hW' := hW
  have ht := envU hL
  have hlts : ∀ x ∈ before, x.block < W.heap.size := fun x hx => hW'.lt x hx
  obtain ⟨p, q, hA0, hV, rfl, hfz, hnd⟩ := hW
  have hA : DataW.TrodAll enc Tryd.prog W 0 (fun _ => true) true Tryd.f5.params.toList args.toList ds p := hA0
  rw [Tryd.params5] at hA hval hreach
  obtain ⟨v0, vs0, d0, ds0, pp0, qq0, hargs, rfl, rfl, h0, rr0⟩ := trodAll_cons hA
  obtain ⟨v1, vs1, d1, ds1, pp1, qq1, rfl, rfl, rfl, h1, rr1⟩ := trodAll_cons rr0
  obtain ⟨v2, vs2, d2, ds2, pp2, qq2, rfl, rfl, rfl, h2, rr2⟩ := trodAll_cons rr1
  obtain ⟨rfl, rfl, rfl⟩ := trodAll_nil rr2
  obtain rfl : args = #[v0, v1, v2] := by cases args; simp_all
  obtain ⟨rfl, rfl⟩ := trodVars_none hV
  obtain ⟨b0, len0, cap0, rfl⟩ := okWide_slice Tryd.underlying22 (hval 0 22 v0 rfl rfl)
  obtain ⟨l0, hlen0, hm0, hri0⟩ := ak_in h0
  subst hlen0
  obtain ⟨a1, rfl, rfl, rfl, w1⟩ := open_int Tryd.underlying3 (hval 1 3 v1 rfl rfl) h1
  obtain ⟨s2, rfl, rfl, rfl, hs2⟩ := open_string Tryd.underlying9 (hval 2 9 v2 rfl rfl) h2
  clear hA0
  refine (walk b0 cap0 l0 hm0 a1 s2 hs2 W ht hri0).mono fun e W' ⟨he, hb⟩ => ?_
  subst he
  exact ⟨_, rfl, post_law laidOut (by kernel_rfl) (by kernel_rfl) rfl hW' rfl hb⟩

set_option maxRecDepth 100000 in
theorem laid_met (os : Os) : laidMet Tryd.prog Rows.udkBackRow.laid ((laidWorldU os).forCall (fun _ _ => 0) ⟨#[], #[Value.slice none 0 0, Value.int .i64 0, Value.string ⟨#[]⟩], []⟩).memory :=
  laid_metU os _
set_option maxRecDepth 100000 in
theorem reads (os : Os) {H : Type} (enc : TypeId × Value → H) : ∃ places, DataW.whole enc Tryd.prog ((laidWorldU os).forCall (fun _ _ => 0) ⟨#[], #[Value.slice none 0 0, Value.int .i64 0, Value.string ⟨#[]⟩], []⟩).memory Tryd.f5.params.toList Rows.udkBackSpec.vars false (#[Value.slice none 0 0, Value.int .i64 0, Value.string ⟨#[]⟩] : Array Value).toList 8 = some ([.nil, .lit (.int .i64 0), .lit (.string [])], [], places) :=
  ⟨[], by kernel_rfl⟩

set_option maxRecDepth 100000 in
theorem lifted (os : Os) (started : os.Started) (H : Type) (enc : TypeId × Value → H) (F : Stop.Interp) :
    ReturnsInHanded {} Tryd.checked os 5 .any ((OpenSpec.ofChange Rows.udkBackSpec).preRow enc Tryd.prog Tryd.f5 Rows.udkBackRow.domain false Rows.udkBackRow.laid) (((OpenSpec.ofChange Rows.udkBackSpec).at F).post enc Tryd.prog Tryd.f5 false true false false) := by
  obtain ⟨places, hx⟩ := reads os enc
  refine returnsInHanded_of_row (C := Tryd.checked) (s := OpenSpec.ofChange Rows.udkBackSpec) own started (by kernel_rfl) Tryd.func5
    (witness_row_atRef (enc := enc) (C := Tryd.checked) false (laidWorldU os) #[Value.slice none 0 0, Value.int .i64 0, Value.string ⟨#[]⟩] rfl (by kernel_rfl) (by kernel_rfl) (by kernel_rfl)
      (OpenSpec.preRow_of_cond 8 hx (by kernel_rfl) (fun k hk => by cases hk) (by kernel_rfl) (laid_met os))) ?_
  intro W base args ds gs before hval hW _ _ hreach hL _ _
  exact contract H enc W base args ds gs before hval hW hL hreach

theorem said : Rows.UdkBackSaid :=
  OpenClaim.holds_of_cond 5 Tryd.f5 rfl rfl rfl rfl rfl rfl rfl ⟨rfl, rfl, rfl, rfl, rfl⟩ rfl rfl rfl rfl rfl (by kernel_rfl) Tryd.func5 (by kernel_rfl)
    (of_decide_eq_true (by kernel_rfl)) (by unfold Func.isWrapper; first | (rw [if_pos (by decide +kernel)]; kernel_rfl) | (rw [if_neg (by decide +kernel)]; exact ⟨rfl, rfl⟩))
    (fun os started H enc _ F => by rw [OpenClaim.pre_eq_preRow]; exact lifted os started H enc F)

theorem plain (f : FuncId) (fn : Func) (hf : Tryd.pinned.checked.prog.funcNamed "phosphor/phosphorlaw21.UdkBack" = some f) (hfn : Tryd.pinned.checked.prog.funcs[f]? = some fn) :
    true = Tryd.pinned.checked.prog.looks [] ∧ ∀ (j : Nat) t, fn.params[j]? = some t → Tryd.pinned.checked.prog.wantsStandIn t = false := by
  obtain rfl : f = 5 := Option.some.inj ((show Tryd.prog.funcNamed "phosphor/phosphorlaw21.UdkBack" = some 5 by kernel_rfl).symm.trans hf) |>.symm
  obtain rfl : fn = Tryd.f5 := (Option.some.inj (Tryd.func5.symm.trans hfn)).symm
  refine ⟨by kernel_rfl, fun j t ht => ?_⟩
  rw [Tryd.params5] at ht
  have hm : t ∈ [22, 3, 9] := by simpa using Array.mem_of_getElem? ht
  have hall : ([22, 3, 9].all fun u => !Tryd.prog.wantsStandIn u) = true := by kernel_rfl
  exact (show Tryd.prog.wantsStandIn t = false by simpa using List.all_eq_true.1 hall t hm)

/-- The card. -/
theorem card : Rows.UdkBackCardSaid :=
  Claim7.holds_tied_plain_at .later [] _ _ _ _ said (fun _ h => by cases h) (by kernel_rfl) (fun _ h => by cases h) udkBack_row_tie rfl ⟨rfl, rfl⟩ (by kernel_rfl) rfl plain (by kernel_rfl)
#print axioms card
end Go.Proofs.YtlhabooeeohniaaDoor.udkBack

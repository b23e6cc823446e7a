/-
  CursStays holds, whatever the input.
-/
import Derived.Test.YtilfhilebdkmkaaFrame0
import Derived.Test.YtilfhilebdkmkaaCurM
import Derived.Test.YtilfhilebdkmkaaCurP
import Derived.Test.YtilfhilebdkmkaaCurQ
import Derived.Test.YtilfhilebdkmkaaCurR
import Derived.Test.YtilfhilebdkmkaaFrameU
namespace Go.Proofs.Ytilfhilebdkmkaa.cursStays
open Go.ChangeShapes Go.WideShapes Go.ChangeAt Go.RowKit
open Go.ChangeMaps (open_string)

set_option maxRecDepth 100000 in
set_option maxHeartbeats 32000000 in
theorem walk (r c : Int) (wp : Bool) (K : CK) (f : Fr) (A0 : Option Addr) (cap : Nat) (l : List Ac3) (hm : l.length ≤ maxLen) (hok : ∀ a ∈ l, a.ok) (w : World) (hri : RAc w A0 l) :
    Calls Try.prog 4 #[uV r c wp K, fV f, .slice A0 l.length cap] w fun e w' => e = .returned (.bool true) ∧ Below w.heap.size w w' := by
  have HAw := Lib.hid (fun V => awakeC_any V)
  have HSm := Lib.hid (fun V => smallF_any f V)
  have HRi := Lib.hid hri
  have HOk := Lib.hid hok
  have HMl := Lib.hid hm
  clear hri hok hm
  have HK := Lib.hid (show Bs w [(w.heap.size + 1, 31, fC f), (w.heap.size, 27, uC r c wp K)] _ from Bs.start2 w 27 31 (uC r c wp K) (fC f))
  have hsm0 : smF f = true → ∃ H W it il ib ir, FrOk f H W it il ib ir := fun h => fr_ok f (by unfold smF at h; simp at h; omega) (by unfold smF at h; simp at h; omega)
  have HS0 := Lib.hid hsm0
  clear hsm0
  generalize smF f = sm at *
  unfold uV fV at *
  go_enter Try.func4, Try.ntmps4
  go_wp2_with fail
  refine (HAw.out _).mono ?_
  rintro e w1 ⟨rfl, hb1⟩
  have HK1 := Lib.hid (HK.out.next hb1)
  clear hb1 HK
  obtain ⟨a0, a1, a2, a3, a4, a5, a6, a7⟩ := fra8 HK1.out.b0
  go_wp2_with fail
  refine (HSm.out _).mono ?_
  rintro e w2 ⟨rfl, hb2⟩
  have HK2 := Lib.hid (HK1.out.next hb2)
  clear hb2 HK1 a0 a1 a2 a3 a4 a5 a6 a7
  rcases sm with _ | _
  case false =>
    go_wp2_with fail
    go_ret
    exact ⟨rfl, HK2.out.bel⟩
  obtain ⟨H, W, it, il, ib, ir, h⟩ := HS0.out (by simp)
  have HFr := Lib.hid (fun V => lFrame_any f V)
  have HOn := Lib.hid (fun V => on_any h r c wp K V)
  have HO := Lib.hid (fun V => cOwn_any (clipP r 0 (H - 1)) (clipP c 0 (W - 1)) false K V)
  have HRWh := Lib.hid (fun V => refWholeC_any h V)
  have HRIn := Lib.hid (fun x y V => refIn_any 0 0 H W x y V)
  have HIs := Lib.hid (fun x y z V => fInside_any h x y z K V)
  have HDo := Lib.hid (fun x y z k n m hn V => do_any h x y z K r c wp K k n m hn V)
  have HP := Lib.hid (fun k n m x y hk => do_in h K.og k n m x y hk)
  have HQ := Lib.hid (fun k n m x y hk hi => do_inside h K.og k n m x y hk hi)
  clear h HS0
  generalize clipP r 0 (H - 1) = p at *
  generalize clipP c 0 (W - 1) = q at *
  unfold uV fV bV at *
  obtain ⟨a0, a1, a2, a3, a4, a5, a6, a7⟩ := fra8 HK2.out.b0
  go_wp2_with fail
  refine (HFr.out _).mono ?_
  rintro e w3 ⟨rfl, hb3⟩
  have HK3 := Lib.hid ((HK2.out.next hb3).alloc 35 #[.int .i64 f.pt, .int .i64 f.pl, .int .i64 f.pb, .int .i64 f.pr, .int .i64 f.mt, .int .i64 f.ml, .int .i64 f.mb, .int .i64 f.mr])
  clear hb3 HK2 a0 a1 a2 a3 a4 a5 a6 a7
  go_upto_region 6 with fail
  generalize w3.heap.size = g1 at *
  refine world_gen (fun V => Bs w [(g1, 35, #[.int .i64 f.pt, .int .i64 f.pl, .int .i64 f.pb, .int .i64 f.pr, .int .i64 f.mt, .int .i64 f.ml, .int .i64 f.mb, .int .i64 f.mr]), (w.heap.size + 1, 31, fC f), (w.heap.size, 27, uC r c wp K)] V) HK3.out ?_
  clear HK3
  intro V HV
  have HK3 := Lib.hid HV
  clear HV
  obtain ⟨i0, i1, i2, i3, i4, i5, i6, i7⟩ := fra8 HK3.out.b1
  obtain ⟨c0, c1, c2, c3, c4, c5, c6, c7, c8, c9, c10, c11, c12⟩ := cur13 HK3.out.b2
  go_wp2_with fail
  refine (HOn.out _).mono ?_
  rintro e w4 ⟨rfl, hb4⟩
  have HK4 := Lib.hid (HK3.out.next hb4)
  clear hb4 HK3 i0 i1 i2 i3 i4 i5 i6 i7 c0 c1 c2 c3 c4 c5 c6 c7 c8 c9 c10 c11 c12 HOn
  go_wp2_with fail
  refine (HO.out _).mono ?_
  rintro e w6 ⟨rfl, hb6⟩
  have HK6 := Lib.hid ((HK4.out.next hb6).alloc 44 #[.int .i64 p, .int .i64 q, .int .u8 K.rd, .bool K.kp, .bool false, .bool K.og, .int .i64 K.a, .int .i64 K.b, .int .i64 K.c, .int .i64 K.d, .int .i64 K.l, .int .i64 K.r, .int .i64 K.s])
  clear hb6 HK4 HO
  go_upto_region 7 with fail
  generalize w6.heap.size = g2 at *
  refine world_gen (fun V => Bs w [(g2, 44, #[.int .i64 p, .int .i64 q, .int .u8 K.rd, .bool K.kp, .bool false, .bool K.og, .int .i64 K.a, .int .i64 K.b, .int .i64 K.c, .int .i64 K.d, .int .i64 K.l, .int .i64 K.r, .int .i64 K.s]), (g1, 35, #[.int .i64 f.pt, .int .i64 f.pl, .int .i64 f.pb, .int .i64 f.pr, .int .i64 f.mt, .int .i64 f.ml, .int .i64 f.mb, .int .i64 f.mr]), (w.heap.size + 1, 31, fC f), (w.heap.size, 27, uC r c wp K)] V) HK6.out ?_
  clear HK6
  intro V HV
  replace HV := Lib.hid HV
  go_wp2_with fail
  --#1
  go_loopw [9] (fun i wr => ∃ (k : Nat) (x y : Int) (z : Bool), k ≤ l.length ∧ k ≤ 30 ∧ i = .int .i64 k ∧ Bs w [(g2, 44, #[.int .i64 x, .int .i64 y, .int .u8 K.rd, .bool K.kp, .bool z, .bool K.og, .int .i64 K.a, .int .i64 K.b, .int .i64 K.c, .int .i64 K.d, .int .i64 K.l, .int .i64 K.r, .int .i64 K.s]), (g1, 35, #[.int .i64 f.pt, .int .i64 f.pl, .int .i64 f.pb, .int .i64 f.pr, .int .i64 f.mt, .int .i64 f.ml, .int .i64 f.mb, .int .i64 f.mr]), (w.heap.size + 1, 31, fC f), (w.heap.size, 27, uC r c wp K)] wr) (fun i _ => 30 - (intOf i).toNat)
  case atStart => exact ⟨0, p, q, false, by omega, by omega, rfl, HV.out⟩
  case round =>
    obtain ⟨k, x, y, z, hk, hk2, rfl, hbs⟩ := hrel
    have HB := Lib.hid hbs
    clear hbs HV
    by_cases hlt : k < l.length
    · by_cases h30 : k < 30
      · have hl1 : decide ((k : Int) < 30) = true := by simp; omega
        obtain ⟨ad, rfl, _, e0, e1, e2⟩ := (HRi.out.next HB.out.bel).at_ hlt
        have HN := Lib.hid (HOk.out l[k] (List.getElem_mem hlt))
        have HD := Lib.hid (fun V => HDo.out x y z l[k].k l[k].n l[k].m HN.out V)
        have HP2 := Lib.hid (HP.out l[k].k l[k].n l[k].m x y)
        have HQ2 := Lib.hid (HQ.out l[k].k l[k].n l[k].m x y)
        have HW2 := Lib.hid (do_wrap l[k].k l[k].n y z)
        clear HN
        have HIn0 := Lib.hid (HIs.out x y z)
        generalize doR H it ib K.og l[k].k l[k].n x = x2 at *
        generalize doC W il ir K.og l[k].k l[k].n l[k].m y = y2 at *
        generalize doW l[k].k l[k].n y z = z2 at *
        generalize insB H W it il ib ir x y = in0 at *
        have HM := HMl.out
        generalize l[k].k = ak at *
        generalize l[k].n = an at *
        generalize l[k].m = am at *
        go_upto_region 11 with fail
        have HB2 := Lib.hid (HB.out.alloc 51 #[.int .i64 ak, .int .i64 an, .int .i64 am])
        clear e0 e1 e2
        generalize wr.heap.size = ga at *
        refine world_gen (fun V => Bs w [(ga, 51, #[.int .i64 ak, .int .i64 an, .int .i64 am]), (g2, 44, #[.int .i64 x, .int .i64 y, .int .u8 K.rd, .bool K.kp, .bool z, .bool K.og, .int .i64 K.a, .int .i64 K.b, .int .i64 K.c, .int .i64 K.d, .int .i64 K.l, .int .i64 K.r, .int .i64 K.s]), (g1, 35, #[.int .i64 f.pt, .int .i64 f.pl, .int .i64 f.pb, .int .i64 f.pr, .int .i64 f.mt, .int .i64 f.ml, .int .i64 f.mb, .int .i64 f.mr]), (w.heap.size + 1, 31, fC f), (w.heap.size, 27, uC r c wp K)] V) HB2.out ?_
        clear HB2 HB
        intro V HV
        replace HV := Lib.hid HV
        obtain ⟨n0, n1, n2⟩ := and3 HV.out.b0
        rcases hA : decide (ak < 1) with _ | _
        case true =>
          go_wp2_with fail
          go_roundw
          case rel => exact ⟨k + 1, x, y, z, by omega, by omega, by go_num, HV.out.tl⟩
          case measure => simp [intOf]; omega
        rcases hB : decide (8 < ak) with _ | _
        case true =>
          go_wp2_with fail
          go_roundw
          case rel => exact ⟨k + 1, x, y, z, by omega, by omega, by go_num, HV.out.tl⟩
          case measure => simp [intOf]; omega
        have hk8 : 1 ≤ ak ∧ ak ≤ 8 := by simp at hA hB; omega
        obtain rfl := HW2.out hk8
        obtain ⟨⟨d1, d2⟩, d3, d4⟩ := HP2.out hk8
        have HRI2 : Hid (∀ V, Calls Try.prog 24 #[.agg #[.int .i64 0, .int .i64 0, .int .i64 H, .int .i64 W], .int .i64 x2, .int .i64 y2] V fun e w' => e = .returned (.bool true) ∧ Below V.heap.size V w') := Lib.hid (fun V => by
          have := HRIn.out x2 y2 V
          rwa [show inB 0 0 H W x2 y2 = true from by unfold inB hasB; simp; omega] at this)
        have HQ3 := Lib.hid (HQ2.out hk8)
        clear HP2 HQ2 HW2 d1 d2 d3 d4
        obtain ⟨c0, c1, c2, c3, c4, c5, c6, c7, c8, c9, c10, c11, c12⟩ := cur13 HV.out.b1
        have a8 := fra8 HV.out.b2
        obtain ⟨a0, a1, a2, a3, a4, a5, a6, a7⟩ := a8
        --#2
        go_wp2_with fail
        refine (HIn0.out _).mono ?_
        rintro e w7 ⟨rfl, hb7⟩
        have HK7 := Lib.hid (HV.out.next hb7)
        clear hb7 HV c0 c1 c2 c3 c4 c5 c6 c7 c8 c9 c10 c11 c12 a0 a1 a2 a3 a4 a5 a6 a7 n0 n1 n2 HIn0
        obtain ⟨n0, n1, n2⟩ := and3 HK7.out.b0
        obtain ⟨c0, c1, c2, c3, c4, c5, c6, c7, c8, c9, c10, c11, c12⟩ := cur13 HK7.out.b1
        obtain ⟨i0, i1, i2, i3, i4, i5, i6, i7⟩ := fra8 HK7.out.b3
        obtain ⟨d0, d1, d2, d3, d4, d5, d6, d7, d8, d9, d10, d11, d12⟩ := cur13 HK7.out.b4
        --#3
        go_wp2_with fail
        refine (HD.out _).mono ?_
        rintro e w8 ⟨rfl, hb8⟩
        have HK8a := Lib.hid (HK7.out.next hb8).sw1
        clear hb8 HK7 c0 c1 c2 c3 c4 c5 c6 c7 c8 c9 c10 c11 c12 d0 d1 d2 d3 d4 d5 d6 d7 d8 d9 d10 d11 d12 i0 i1 i2 i3 i4 i5 i6 i7 n0 n1 n2 HD
        obtain ⟨c0, c1, c2, c3, c4, c5, c6, c7, c8, c9, c10, c11, c12⟩ := cur13 HK8a.out.b0
        obtain ⟨z0, z1, z2, z3, z4, z5, z6, z7, z8, z9, z10, z11, z12⟩ := fro13 HK8a.out.b0
        have HK8b := HK8a.out.p0 (.int .i64 x2) (.int .i64 y2) (.int .u8 K.rd) (.bool K.kp) (.bool false) (.bool K.og) (.int .i64 K.a) (.int .i64 K.b) (.int .i64 K.c) (.int .i64 K.d) (.int .i64 K.l) (.int .i64 K.r) (.int .i64 K.s)
        unfold put13 at HK8b
        replace HK8b := Lib.hid HK8b
        --#4
        go_upto_region 14 with fail
        refine world_gen (fun V => Bs w [(ga, 51, #[.int .i64 ak, .int .i64 an, .int .i64 am]), (g2, 44, #[.int .i64 x2, .int .i64 y2, .int .u8 K.rd, .bool K.kp, .bool false, .bool K.og, .int .i64 K.a, .int .i64 K.b, .int .i64 K.c, .int .i64 K.d, .int .i64 K.l, .int .i64 K.r, .int .i64 K.s]), (g1, 35, #[.int .i64 f.pt, .int .i64 f.pl, .int .i64 f.pb, .int .i64 f.pr, .int .i64 f.mt, .int .i64 f.ml, .int .i64 f.mb, .int .i64 f.mr]), (w.heap.size + 1, 31, fC f), (w.heap.size, 27, uC r c wp K)] V) HK8b.out.sw1 ?_
        clear HK8b HK8a c0 c1 c2 c3 c4 c5 c6 c7 c8 c9 c10 c11 c12 z0 z1 z2 z3 z4 z5 z6 z7 z8 z9 z10 z11 z12
        intro V HV
        replace HV := Lib.hid HV
        have HX := Lib.hid (fun w' (h : Only [] V w') => And.intro (cur13 (h.blk HV.out.b1 (by simp))) (fra8 (h.blk HV.out.b3 (by simp))))
        refine wp_region_mix_lit (by kernel_rfl) [(1, .call (.agg #[.int .i64 0, .int .i64 0, .int .i64 H, .int .i64 W])), (8, .call (.bool true))] (by kernel_rfl) (by kernel_rfl) (by kernel_rfl) (by rfl) (by simp [apartK] <;> omega) (by simp [startK]) (by simp [stabK]) (⟨fun _ => undef, by simp [okK]⟩) (fun β hβ => ?_)
        repeat (
          refine lex_val (v := ?_) rfl rfl (fun w' hf => ?_) ?_
          rotate_left
          · obtain ⟨⟨c0, c1, c2, c3, c4, c5, c6, c7, c8, c9, c10, c11, c12⟩, i0, i1, i2, i3, i4, i5, i6, i7⟩ := HX.out w' hf.only; go_simp
            try rfl
          try simp only [Act.put, List.setIfInBounds_toArray, List.set_cons_zero, List.set_cons_succ])
        refine lex_call (f := 12) (args := ?_) rfl rfl (fun w' hf => ?_) (fun w' hf => ?_) ?_
        rotate_left
        · go_simp
          try rfl
        · exact HRWh.out w'
        try simp only [Act.put, List.setIfInBounds_toArray, List.set_cons_zero, List.set_cons_succ]
        repeat (
          refine lex_val (v := ?_) rfl rfl (fun w' hf => ?_) ?_
          rotate_left
          · obtain ⟨⟨c0, c1, c2, c3, c4, c5, c6, c7, c8, c9, c10, c11, c12⟩, i0, i1, i2, i3, i4, i5, i6, i7⟩ := HX.out w' hf.only; go_simp
            try rfl
          try simp only [Act.put, List.setIfInBounds_toArray, List.set_cons_zero, List.set_cons_succ])
        refine lex_call (f := 24) (args := ?_) rfl rfl (fun w' hf => ?_) (fun w' hf => ?_) ?_
        rotate_left
        · go_simp
          try rfl
        · exact HRI2.out w'
        try simp only [Act.put, List.setIfInBounds_toArray, List.set_cons_zero, List.set_cons_succ]
        repeat (
          refine lex_val (v := ?_) rfl rfl (fun w' hf => ?_) ?_
          rotate_left
          · obtain ⟨⟨c0, c1, c2, c3, c4, c5, c6, c7, c8, c9, c10, c11, c12⟩, i0, i1, i2, i3, i4, i5, i6, i7⟩ := HX.out w' hf.only; go_simp
            try rfl
          try simp only [Act.put, List.setIfInBounds_toArray, List.set_cons_zero, List.set_cons_succ])
        refine lex_nil fun w9 he => ?_
        have HK8 := Lib.hid (HV.out.next he.only.below0)
        clear he HX hβ HV
        have HIn2 : Hid ((5 ≤ ak ∧ ak ≤ 7 ∧ K.og = true) ∨ (¬ (5 ≤ ak ∧ ak ≤ 7) ∧ in0 = true) → ∀ V, Calls Try.prog 17 #[.agg #[.int .i64 x2, .int .i64 y2, .int .u8 K.rd, .bool K.kp, .bool false, .bool K.og, .int .i64 K.a, .int .i64 K.b, .int .i64 K.c, .int .i64 K.d, .int .i64 K.l, .int .i64 K.r, .int .i64 K.s], .agg #[.int .i64 f.pt, .int .i64 f.pl, .int .i64 f.pb, .int .i64 f.pr, .int .i64 f.mt, .int .i64 f.ml, .int .i64 f.mb, .int .i64 f.mr]] V fun e w' => e = .returned (.bool true) ∧ Below V.heap.size V w') := Lib.hid (fun hh V => by
          have := HIs.out x2 y2 false V
          rwa [HQ3.out hh] at this)
        clear HQ3 HIs
        obtain ⟨n0, n1, n2⟩ := and3 HK8.out.b0
        obtain ⟨c0, c1, c2, c3, c4, c5, c6, c7, c8, c9, c10, c11, c12⟩ := cur13 HK8.out.b1
        obtain ⟨a0, a1, a2, a3, a4, a5, a6, a7⟩ := fra8 HK8.out.b2
        --#5
        by_cases h57 : 5 ≤ ak ∧ ak ≤ 7
        · obtain ⟨h5, h7⟩ := h57
          have hd5 : decide (5 ≤ ak) = true := by simpa using h5
          have hd7 : decide (ak ≤ 7) = true := by simpa using h7
          rcases (show K.og = false ∨ K.og = true from by cases K.og; exact .inl rfl; exact .inr rfl) with hog | hog
          · rw [hog] at c5
            clear hog HIn2
            --#8
            go_wp2_with fail
            go_roundw
            case rel => exact ⟨k + 1, x2, y2, false, by omega, by omega, by go_num, HK8.out.tl⟩
            case measure => simp [intOf]; omega
          · have HJ := Lib.hid (HIn2.out (.inl ⟨h5, h7, hog⟩))
            rw [hog] at c5 HJ
            clear hog HIn2
            --#9
            go_wp2_with fail
            refine (HJ.out _).mono ?_
            rintro e w9 ⟨rfl, hb9⟩
            have HK9 := Lib.hid (HK8.out.next hb9)
            clear hb9
            go_wp2_with fail
            go_roundw
            case rel => exact ⟨k + 1, x2, y2, false, by omega, by omega, by go_num, HK9.out.tl⟩
            case measure => simp [intOf]; omega
        · have hd : decide (5 ≤ ak) = false ∨ (decide (5 ≤ ak) = true ∧ decide (ak ≤ 7) = false) := by
            by_cases h5 : 5 ≤ ak
            · exact .inr ⟨by simpa using h5, by simp; omega⟩
            · exact .inl (by simpa using h5)
          cases in0
          · clear HIn2 h57
            rcases hd with hd | ⟨hd, hd2⟩
            all_goals
              go_wp2_with fail
              go_roundw
              case rel => exact ⟨k + 1, x2, y2, false, by omega, by omega, by go_num, HK8.out.tl⟩
              case measure => simp [intOf]; omega
          · have HJ := Lib.hid (HIn2.out (.inr ⟨h57, rfl⟩))
            clear h57 HIn2
            rcases hd with hd | ⟨hd, hd2⟩
            all_goals
              go_wp2_with fail
              refine (HJ.out _).mono ?_
              rintro e w9 ⟨rfl, hb9⟩
              have HK9 := Lib.hid (HK8.out.next hb9)
              clear hb9
              go_wp2_with fail
              go_roundw
              case rel => exact ⟨k + 1, x2, y2, false, by omega, by omega, by go_num, HK9.out.tl⟩
              case measure => simp [intOf]; omega
      · have hl1 : decide ((k : Int) < 30) = false := by simp; omega
        --#6
        go_wp2_with fail
        go_ret
        exact ⟨rfl, HB.out.bel⟩
    · --#7
      go_wp2_with fail
      go_ret
      exact ⟨rfl, HB.out.bel⟩

set_option maxRecDepth 100000 in
/-- What the walk gives, for every argument and every world that holds the table. -/
theorem contract (H : Type) (enc : TypeId × Value → H) (W : World) (base : Nat) (args : Array Value) (ds gs : List (DataW H)) (before : List MemPlace)
    (hval : ∀ (j : Nat) t v, Try.f4.params[j]? = some t → args[j]? = some v → Value.okWide Try.prog W .any base t v)
    (hW : DataW.Whole enc Try.prog Try.f4.params.toList Rows.cursStaysSpec.vars false W args.toList ds gs before) (_hL : laidMetH Try.prog Rows.cursStaysRow.laid W)
    (hreach : (DataW.weightsEach Try.prog (Try.f4.params.toList ++ []) (ds ++ gs)).all (· ≤ reachBytes) = true) :
    Calls Try.prog 4 args W fun e W' => ∃ v, e = .returned v ∧ Rows.cursStaysSpec.post enc Try.prog Try.f4 false true false false W args v W' := by
  have hW' := hW
  clear _hL
  have hlts : ∀ x ∈ before, x.block < W.heap.size := fun x hx => hW'.lt x hx
  obtain ⟨p, q, hA0, hV, rfl, hfz, hnd⟩ := hW
  have hA : DataW.TrodAll enc Try.prog W 0 (fun _ => true) true Try.f4.params.toList args.toList ds p := hA0
  rw [Try.params4] at hA hval hreach
  obtain ⟨v0, vs0, d0, ds0, pp0, qq0, hargs, rfl, rfl, h0, rr0⟩ := trodAll_cons hA
  obtain ⟨v1, vs1, d1, ds1, pp1, qq1, rfl, rfl, rfl, h1, rr1⟩ := trodAll_cons rr0
  obtain ⟨v2, vs2, d2, ds2, pp2, qq2, rfl, rfl, rfl, h2, rr2⟩ := trodAll_cons rr1
  obtain ⟨rfl, rfl, rfl⟩ := trodAll_nil rr2
  obtain rfl : args = #[v0, v1, v2] := by cases args; simp_all
  obtain ⟨rfl, rfl⟩ := trodVars_none hV
  obtain ⟨r0, c0, wp0, K0, rfl⟩ := curs_in (hval 0 27 v0 rfl rfl) h0
  obtain ⟨f1, rfl⟩ := fram_in (hval 1 31 v1 rfl rfl) h1
  obtain ⟨b2, len2, cap2, rfl⟩ := okWide_slice Try.underlying32 (hval 2 32 v2 rfl rfl)
  obtain ⟨l2, hlen2, hm2, hok2, hri2⟩ := acts3_in h2
  subst hlen2
  clear hA0
  refine (walk r0 c0 wp0 K0 f1 b2 cap2 l2 hm2 hok2 W hri2).mono fun e W' ⟨he, hb⟩ => ?_
  subst he
  exact ⟨_, rfl, post_law laidOut (by kernel_rfl) (by kernel_rfl) rfl hW' rfl hb⟩

set_option maxRecDepth 100000 in
theorem laid_met (os : Os) : laidMet Try.prog Rows.cursStaysRow.laid ((laidWorld os).forCall (fun _ _ => 0) ⟨#[], #[Value.agg #[.int .i64 0, .int .i64 0, .int .u8 0, .bool false, .bool false, .bool false, .int .i64 0, .int .i64 0, .int .i64 0, .int .i64 0, .int .i64 0, .int .i64 0, .int .i64 0], Value.agg #[.int .i64 0, .int .i64 0, .int .i64 0, .int .i64 0, .int .i64 0, .int .i64 0, .int .i64 0, .int .i64 0], Value.slice none 0 0], []⟩).memory :=
  laidMet_of_run' 8 (by kernel_rfl) (by kernel_rfl)
set_option maxRecDepth 100000 in
theorem reads (os : Os) {H : Type} (enc : TypeId × Value → H) : ∃ places, DataW.whole enc Try.prog ((laidWorld os).forCall (fun _ _ => 0) ⟨#[], #[Value.agg #[.int .i64 0, .int .i64 0, .int .u8 0, .bool false, .bool false, .bool false, .int .i64 0, .int .i64 0, .int .i64 0, .int .i64 0, .int .i64 0, .int .i64 0, .int .i64 0], Value.agg #[.int .i64 0, .int .i64 0, .int .i64 0, .int .i64 0, .int .i64 0, .int .i64 0, .int .i64 0, .int .i64 0], Value.slice none 0 0], []⟩).memory Try.f4.params.toList Rows.cursStaysSpec.vars false (#[Value.agg #[.int .i64 0, .int .i64 0, .int .u8 0, .bool false, .bool false, .bool false, .int .i64 0, .int .i64 0, .int .i64 0, .int .i64 0, .int .i64 0, .int .i64 0, .int .i64 0], Value.agg #[.int .i64 0, .int .i64 0, .int .i64 0, .int .i64 0, .int .i64 0, .int .i64 0, .int .i64 0, .int .i64 0], Value.slice none 0 0] : Array Value).toList 8 = some ([.agg [.lit (.int .i64 0), .lit (.int .i64 0), .lit (.int .u8 0), .lit (.bool false), .lit (.bool false), .lit (.bool false), .agg [.agg [.lit (.int .i64 0), .lit (.int .i64 0), .lit (.int .i64 0), .lit (.int .i64 0)], .lit (.int .i64 0), .lit (.int .i64 0), .lit (.int .i64 0)]], .agg [.agg [.lit (.int .i64 0), .lit (.int .i64 0), .lit (.int .i64 0), .lit (.int .i64 0)], .agg [.lit (.int .i64 0), .lit (.int .i64 0), .lit (.int .i64 0), .lit (.int .i64 0)]], .nil], [], places) :=
  ⟨[], by kernel_rfl⟩

set_option maxRecDepth 100000 in
theorem lifted (os : Os) (started : os.Started) (H : Type) (enc : TypeId × Value → H) (F : Stop.Interp) :
    ReturnsInHanded {} Try.checked os 4 .any ((OpenSpec.ofChange Rows.cursStaysSpec).preRow enc Try.prog Try.f4 Rows.cursStaysRow.domain false Rows.cursStaysRow.laid) (((OpenSpec.ofChange Rows.cursStaysSpec).at F).post enc Try.prog Try.f4 false true false false) := by
  obtain ⟨places, hx⟩ := reads os enc
  refine returnsInHanded_of_row (C := Try.checked) (s := OpenSpec.ofChange Rows.cursStaysSpec) own started (by kernel_rfl) Try.func4
    (witness_row_at (enc := enc) (C := Try.checked) false (laidWorld os) #[Value.agg #[.int .i64 0, .int .i64 0, .int .u8 0, .bool false, .bool false, .bool false, .int .i64 0, .int .i64 0, .int .i64 0, .int .i64 0, .int .i64 0, .int .i64 0, .int .i64 0], Value.agg #[.int .i64 0, .int .i64 0, .int .i64 0, .int .i64 0, .int .i64 0, .int .i64 0, .int .i64 0, .int .i64 0], Value.slice none 0 0] rfl (by kernel_rfl) (by kernel_rfl) (by kernel_rfl)
      (OpenSpec.preRow_of_cond 8 hx (by kernel_rfl) (fun k hk => by cases hk) (by kernel_rfl) (laid_met os))) ?_
  intro W base args ds gs before hval hW _ _ hreach hL _ _
  exact contract H enc W base args ds gs before hval hW hL hreach

theorem said : Rows.CursStaysSaid :=
  OpenClaim.holds_of_cond 4 Try.f4 rfl rfl rfl rfl rfl rfl rfl ⟨rfl, rfl, rfl, rfl, rfl⟩ rfl rfl rfl rfl rfl (by kernel_rfl) Try.func4 (by kernel_rfl)
    (of_decide_eq_true (by kernel_rfl)) (by unfold Func.isWrapper; first | (rw [if_pos (by decide +kernel)]; kernel_rfl) | (rw [if_neg (by decide +kernel)]; exact ⟨rfl, rfl⟩))
    (fun os started H enc _ F => by rw [OpenClaim.pre_eq_preRow]; exact lifted os started H enc F)

#print axioms said
end Go.Proofs.Ytilfhilebdkmkaa.cursStays

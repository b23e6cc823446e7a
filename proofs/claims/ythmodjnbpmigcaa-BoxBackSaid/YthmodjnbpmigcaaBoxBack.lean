/-
  BoxBack holds, whatever the input.
-/
import Derived.Test.YthmodjnbpmigcaaFrame0
import Derived.Test.YthmodjnbpmigcaaBoxU
import Derived.Test.YthmodjnbpmigcaaFrameX
import Derived.Deep.DeepCutAuto
namespace Go.Proofs.Ythmodjnbpmigcaa.boxBack
open Go.ChangeShapes Go.WideShapes Go.ChangeAt Go.RowKit
open Go.ChangeMaps (open_string)

set_option maxRecDepth 100000 in
set_option maxHeartbeats 16000000 in
theorem walk (t l b r : Int) (A : Option Addr) (c : Nat) (ns : List Int) (hm : ns.length ≤ 17592186043904) (hc : ns.length ≤ c) (n : Int) (hn : -9223372036854775808 ≤ n ∧ n ≤ 9223372036854775807) (w : World) (hR : RInts w A ns) :
    Calls Try.prog 8 #[bV t l b r, .slice A ns.length c, .int .i64 n] w fun e w' => e = .returned (.bool true) ∧ Below w.heap.size w w' := by
  have HS := Lib.hid (fun W => small_any t l b r W)
  have HN := Lib.hid (new1 w 23 (bC t l b r))
  have HR := Lib.hid hR
  clear hR
  cases hs : smB t l b r
  · rw [hs] at HS
    clear hs
    unfold bV at *
    go_enter Try.func8, Try.ntmps8
    go_wp2_with fail
    refine (awake5_any _).mono ?_
    rintro e w1 ⟨rfl, hb1⟩
    obtain ⟨c0, c1, c2, c3, _⟩ := blk4 (HN.out.1.next hb1)
    have HB1 := Lib.hid (bstep HN.out.2 hb1)
    clear hb1
    go_wp2_with fail
    refine (HS.out _).mono ?_
    rintro e w2 ⟨rfl, hb2⟩
    have HB2 := Lib.hid (bstep HB1.out hb2)
    clear hb2 c0 c1 c2 c3
    go_wp2_with fail
    go_ret
    exact ⟨rfl, HB2.out⟩
  · obtain ⟨s0, s1, s2, s3⟩ := sm_of t l b r hs
    rw [hs] at HS
    clear hs
    have HP := Lib.hid (fun W h => rect_any t l b r s0 s1 s2 s3 A c ns hm hc 0 W h)
    obtain ⟨res, hres⟩ : ∃ m, m = rectT t l b r ns 0 := ⟨_, rfl⟩
    rw [← hres] at HP
    obtain ⟨⟨x1, x2, y1, y2⟩, ok⟩ := res
    simp only at HP
    have HSp := Lib.hid (fun first last W => span_any n first last hn.1 hn.2 W)
    have HSA := Lib.hid (fun first last a z h => spanT_again n first last a z h)
    have HSI := Lib.hid (fun first last h => spanT_in n first last h)
    have HQ1 := Lib.hid (fun (h : ok = true) => (fun A' c' (hc' : 4 ≤ c') W (h' : RInts W A' [x1 - t + 1, x2 - l + 1, y1 - t, y2 - l]) => (by
      subst h
      have := rect_any t l b r s0 s1 s2 s3 A' c' [x1 - t + 1, x2 - l + 1, y1 - t, y2 - l] (by simp) hc' 0 W h'
      rwa [rectT_again t l b r ns 0 x1 x2 y1 y2 hres.symm] at this : Calls Try.prog 24 #[bV t l b r, .slice A' 4 c', .int .i64 0] W fun e w' => e = .returned (.tuple #[bV x1 x2 y1 y2, .bool true]) ∧ Below W.heap.size W w')))
    have HPl := Lib.hid (fun W h => place_any t l b r s0 s1 s2 s3 A c ns hm hc 0 W h)
    obtain ⟨res2, hres2⟩ : ∃ m, m = placeT t l b r ns 0 := ⟨_, rfl⟩
    rw [← hres2] at HPl
    obtain ⟨p, q⟩ := res2
    simp only at HPl
    have hpin : ok = true → inB t l b r p q = true := fun h => by
      subst h
      obtain ⟨h1, h2⟩ := rectT_in t l b r ns 0 x1 x2 y1 y2 hres.symm
      have := placeT_in t l b r ns 0 (by unfold bEm emB; simp; omega)
      rwa [← hres2] at this
    have HQ2 := Lib.hid (fun (h : ok = true) => (fun A' c' (hc' : 2 ≤ c') W (h' : RInts W A' [p - t + 1, q - l + 1]) => (by
      have := place_any t l b r s0 s1 s2 s3 A' c' [p - t + 1, q - l + 1] (by simp) hc' 0 W h'
      rwa [placeT_again t l b r p q (hpin h)] at this : Calls Try.prog 27 #[bV t l b r, .slice A' 2 c', .int .i64 0] W fun e w' => e = .returned (pV p q) ∧ Below W.heap.size W w')))
    have HBd : Hid (ok = true → (Sm t ∧ Sm l ∧ Sm b ∧ Sm r) ∧ ((t ≤ x1 ∧ x1 < y1 ∧ y1 ≤ b) ∧ (l ≤ x2 ∧ x2 < y2 ∧ y2 ≤ r)) ∧ ((t ≤ p ∧ p < b) ∧ (l ≤ q ∧ q < r))) := Lib.hid (fun h => by
      refine ⟨⟨s0, s1, s2, s3⟩, ?_, ?_⟩
      · subst h; exact rectT_in t l b r ns 0 x1 x2 y1 y2 hres.symm
      · exact (inB_iff _ _ _ _ _ _).1 (hpin h))
    clear hres hres2 hpin s0 s1 s2 s3
    have hq1 : ∀ W, (binOp .neq 23 (.agg #[.int .i64 x1, .int .i64 x2, .int .i64 y1, .int .i64 y2]) (.agg #[.int .i64 x1, .int .i64 x2, .int .i64 y1, .int .i64 y2])).run Try.prog W = .ok (.bool false) W := fun W => by
      have := neq_box W x1 x2 y1 y2 x1 x2 y1 y2
      rwa [show eqB4 x1 x2 y1 y2 x1 x2 y1 y2 = true from by unfold eqB4; simp] at this
    have hq2 : ∀ W, (binOp .neq 25 (.agg #[.int .i64 p, .int .i64 q]) (.agg #[.int .i64 p, .int .i64 q])).run Try.prog W = .ok (.bool false) W := fun W => by
      have := neq_pos W p q p q
      rwa [show eqB2 p q p q = true from by unfold eqB2; simp] at this
    have HE1 := Lib.hid hq1
    have HE2 := Lib.hid hq2
    have HG1 := Lib.hid guard_box'
    have HG2 := Lib.hid guard_pos'
    clear hq1 hq2
    unfold bV pV at *
    go_enter Try.func8, Try.ntmps8
    go_wp2_with fail
    refine (awake5_any _).mono ?_
    rintro e w1 ⟨rfl, hb1⟩
    have HK1 := Lib.hid (And.intro (HN.out.1.next hb1) (bstep HN.out.2 hb1))
    clear hb1
    obtain ⟨c0, c1, c2, c3, _⟩ := blk4 HK1.out.1
    go_wp2_with fail
    refine (HS.out _).mono ?_
    rintro e w2 ⟨rfl, hb2⟩
    have HK2 := Lib.hid (And.intro (HK1.out.1.next hb2) (bstep HK1.out.2 hb2))
    clear hb2 c0 c1 c2 c3 HK1
    obtain ⟨c0, c1, c2, c3, _⟩ := blk4 HK2.out.1
    go_wp2_with fail
    refine (HP.out _ (HR.out.next HK2.out.2)).mono ?_
    rintro e w3 ⟨rfl, hb3⟩
    have HK3 := Lib.hid (And.intro ((HK2.out.1.next hb3).alloc (.cells #[.int .i64 x1, .int .i64 x2, .int .i64 y1, .int .i64 y2] 23)) (And.intro (new1 w3 23 #[.int .i64 x1, .int .i64 x2, .int .i64 y1, .int .i64 y2]).1 (bstep (bstep HK2.out.2 hb3) (new1 w3 23 #[.int .i64 x1, .int .i64 x2, .int .i64 y1, .int .i64 y2]).2)))
    have HLt := Lib.hid ((HK2.out.1.next hb3).lt)
    clear hb3 c0 c1 c2 c3 HK2
    go_upto_if 30 with (fail)
    refine world_gen (fun W => Blk W w.heap.size 23 (bC t l b r) ∧ Blk W w3.heap.size 23 (bC x1 x2 y1 y2) ∧ Below w.heap.size w W ∧ w.heap.size < w3.heap.size) ⟨HK3.out.1, HK3.out.2.1, HK3.out.2.2, HLt.out⟩ ?_
    intro W0 HW
    replace HW := Lib.hid HW
    clear HK3 HS HP
    go_cut [8] (fun s wx => s = .bool ok ∧ Below w.heap.size w wx)
    case first =>
      cases ok
      · go_wp2_with fail
        go_meet
        exact ⟨rfl, HW.out.2.2.1⟩
      · obtain ⟨⟨s0, s1, s2, s3⟩, ⟨⟨g1, g2, g3⟩, g4, g5, g6⟩, ⟨k1, k2⟩, k3, k4⟩ := HBd.out (by first | rfl | trivial)
        unfold Sm at s0 s1 s2 s3
        obtain ⟨s00, s01⟩ := s0
        obtain ⟨s10, s11⟩ := s1
        obtain ⟨s20, s21⟩ := s2
        obtain ⟨s30, s31⟩ := s3
        have HQ1' := HQ1.out (by first | rfl | trivial)
        have HQ2' := HQ2.out (by first | rfl | trivial)
        replace HQ1' := Lib.hid HQ1'
        replace HQ2' := Lib.hid HQ2'
        clear HQ1 HQ2 HBd
        obtain ⟨c0, c1, c2, c3, _⟩ := blk4 HW.out.1
        obtain ⟨d0, d1, d2, d3, _⟩ := blk4 HW.out.2.1
        go_wp2_with fail
        refine (HQ1'.out (some ⟨W0.heap.size, 0, none⟩) 4 (by omega) _ (rints_new W0 3 [x1 - t + 1, x2 - l + 1, y1 - t, y2 - l] #[.int .i64 (x1 - t + 1), .int .i64 (x2 - l + 1), .int .i64 (y1 - t), .int .i64 (y2 - l)] rfl W0.heap.size rfl)).mono ?_
        rintro e w4 ⟨rfl, hb4⟩
        have HK4 := Lib.hid (And.intro ((HW.out.1.alloc _).next hb4) (And.intro ((HW.out.2.1.alloc _).next hb4) (bstep (bstep HW.out.2.2.1 (new1 W0 _ _).2) hb4)))
        clear hb4 c0 c1 c2 c3 d0 d1 d2 d3
        obtain ⟨c0, c1, c2, c3, _⟩ := blk4 HK4.out.1
        have hz1 : w.heap.size < w4.heap.size := HK4.out.1.lt
        go_wp2_with fail
        have HN4 := Lib.hid (new1 w4 23 #[.int .i64 x1, .int .i64 x2, .int .i64 y1, .int .i64 y2])
        refine (HPl.out _ (HR.out.next (bstep HK4.out.2.2 HN4.out.2))).mono ?_
        rintro e w5 ⟨rfl, hb5⟩
        have HK5 := Lib.hid (And.intro ((HK4.out.1.alloc _).next hb5) (And.intro ((HK4.out.2.1.alloc _).next hb5) (And.intro (HN4.out.1.next hb5) (bstep (bstep HK4.out.2.2 HN4.out.2) hb5))))
        clear hb5 c0 c1 c2 c3 hz1 HK4
        have hz1 : w.heap.size < w5.heap.size := HK5.out.1.lt
        obtain ⟨c0, c1, c2, c3, _⟩ := blk4 HK5.out.1
        go_wp2_with fail
        have HN5 := Lib.hid (new1 w5 25 #[.int .i64 p, .int .i64 q])
        refine (HQ2'.out (some ⟨w5.heap.size + 1, 0, none⟩) 2 (by omega) _ (by
          have := rints_new (w5.alloc (.cells #[.int .i64 p, .int .i64 q] 25)) 3 [p - t + 1, q - l + 1] #[.int .i64 (p - t + 1), .int .i64 (q - l + 1)] rfl (w5.heap.size + 1) (by simp)
          exact this)).mono ?_
        rintro e w6 ⟨rfl, hb6⟩
        have HK6 := Lib.hid (And.intro ((HK5.out.2.1.alloc _ |>.alloc _).next hb6) (And.intro ((HK5.out.2.2.1.alloc _ |>.alloc _).next hb6) (And.intro ((HN5.out.1.alloc _).next hb6) (bstep (bstep (bstep HK5.out.2.2.2 HN5.out.2) (new1 _ _ _).2) hb6))))
        clear hb6 c0 c1 c2 c3 hz1 HK5 HN5 HN4 HW
        have hz1 : w3.heap.size < w6.heap.size := HK6.out.1.lt
        have hz2 : w4.heap.size < w6.heap.size := HK6.out.2.1.lt
        have hz3 : w5.heap.size < w6.heap.size := HK6.out.2.2.1.lt
        obtain ⟨c0, c1, c2, c3, _⟩ := blk4 HK6.out.1
        obtain ⟨d0, d1, d2, d3, _⟩ := blk4 HK6.out.2.1
        obtain ⟨f0, f1, _⟩ := blk2 HK6.out.2.2.1
        have hq1 := HE1.out
        have hq2 := HE2.out
        have hg1 := HG1.out
        have hg2 := HG2.out
        go_wp2_with fail
        go_meet
        exact ⟨rfl, bstep HK6.out.2.2.2 (new1 w6 _ _).2⟩
    case rest =>
      obtain ⟨rfl, hk⟩ := hcut
      have HB := Lib.hid hk
      clear hk HQ1 HQ2 HBd HE1 HE2 HG1 HG2 HPl HN HW HLt
      by_cases hlen : ns.length < 2
      · have hl : decide ((ns.length : Int) < 2) = true := by simp; omega
        go_wp2_with fail
        go_ret
        exact ⟨rfl, HB.out⟩
      · have hl : decide ((ns.length : Int) < 2) = false := by simp; omega
        have hr1 := HR.out.next HB.out
        obtain ⟨ad, rfl, _, hc0⟩ := hr1.at_ (k := 0) (by omega)
        obtain ⟨ad', e', _, hc1⟩ := hr1.at_ (k := 1) (by omega)
        injection e' with e'
        subst e'
        clear hr1 hc0 hc1
        have HRW : Hid (∀ w', Only [] wc w' → w'.cell? (ad.add 0) = some (.int .i64 ns[0]) ∧ w'.cell? ad = some (.int .i64 ns[0]) ∧ w'.cell? ⟨ad.block, ad.off + 1, none⟩ = some (.int .i64 ns[1])) := Lib.hid (fun w' h => by
          have hr2 := rints_only HR.out HB.out (by simp) h
          obtain ⟨a1, e1, _, g0⟩ := hr2.at_ (k := 0) (by omega)
          obtain ⟨a2, e2, _, g1⟩ := hr2.at_ (k := 1) (by omega)
          injection e1 with e1
          injection e2 with e2
          subst e1
          subst e2
          rw [show ad.add 1 = ⟨ad.block, ad.off + 1, none⟩ from by unfold Addr.add; simp] at g1
          refine ⟨g0, ?_, g1⟩
          rwa [show ad.add 0 = ad from by unfold Addr.add; simp] at g0)
        generalize ns[0] = n0 at *
        generalize ns[1] = n1 at *
        have hlz : 2 ≤ ns.length := by omega
        have hlz0 : (0 : Int) < ns.length := by omega
        have hlz1 : (1 : Int) < ns.length := by omega
        have hlz2 : 0 < ns.length := by omega
        have hlz3 : 1 < ns.length := by omega
        clear hlen
        have HS1 := Lib.hid (fun W => HSp.out n0 n1 W)
        obtain ⟨res, hres⟩ : ∃ m, m = spanT n n0 n1 := ⟨_, rfl⟩
        rw [← hres] at HS1
        obtain ⟨a, z, ok2⟩ := res
        simp only at HS1
        have hsi : ok2 = true → 0 ≤ a ∧ a + 1 < z ∧ z ≤ n := fun h => by
          subst h
          have := HSI.out n0 n1 (by rw [← hres])
          rwa [← hres] at this
        have hsn : ok2 = false → a = 0 ∧ z = 0 := fun h => by
          subst h
          unfold spanT at hres
          split at hres
          · injection hres with e1 e2; injection e2 with e2 e3; exact ⟨e1, e2⟩
          · injection hres with _ e2; injection e2 with _ e3; cases e3
        have HSI' := Lib.hid hsi
        have HSN := Lib.hid hsn
        have HAg : Hid (ok2 = true → ∀ W, Calls Try.prog 22 #[.int .i64 n, .int .i64 (a + 1), .int .i64 z] W fun e w' => e = .returned (.tuple #[.int .i64 a, .int .i64 z, .bool true]) ∧ Below W.heap.size W w') := Lib.hid (fun h W => by
          subst h
          have := HSp.out (a + 1) z W
          rwa [HSA.out n0 n1 a z hres.symm] at this)
        clear hres hsi hsn HSA HSI
        go_wp2_with fail
        refine wp_region_mix_lit (by kernel_rfl) [(7, .call (.tuple #[.int .i64 a, .int .i64 z, .bool ok2]))] (by kernel_rfl) (by kernel_rfl) (by kernel_rfl) (by rfl) (by simp [apartK] <;> omega) (by simp [startK]) (by simp [stabK]) (⟨fun _ => undef, by simp [okK]⟩) (fun β hβ => ?_)
        repeat (
          refine lex_val (v := ?_) rfl rfl (fun w' hf => ?_) ?_
          rotate_left
          · obtain ⟨g0, g0', g1⟩ := HRW.out w' hf.only; go_simp
            try rfl
          try simp only [Act.put, List.setIfInBounds_toArray, List.set_cons_zero, List.set_cons_succ])
        refine lex_call (f := 22) (args := ?_) rfl rfl (fun w' hf => ?_) (fun w' hf => ?_) ?_
        rotate_left
        · go_simp
          try rfl
        · exact HS1.out w'
        try simp only [Act.put, List.setIfInBounds_toArray, List.set_cons_zero, List.set_cons_succ]
        repeat (
          refine lex_val (v := ?_) rfl rfl (fun w' hf => ?_) ?_
          rotate_left
          · go_simp
            try rfl
          try simp only [Act.put, List.setIfInBounds_toArray, List.set_cons_zero, List.set_cons_succ])
        refine lex_nil fun w7 he => ?_
        have HB7 := Lib.hid (bstep HB.out he.only.below0)
        clear he HRW hβ HB
        cases ok2
        · obtain ⟨rfl, rfl⟩ := HSN.out (by first | rfl | trivial)
          have HS2 := Lib.hid (fun W => HSp.out 1 0 W)
          generalize spanT n 1 0 = res at *
          obtain ⟨x', y', is'⟩ := res
          simp only at HS2
          clear HSI' HSN HAg HSp
          go_wp2_with fail
          refine (HS2.out _).mono ?_
          rintro e w8 ⟨rfl, hb8⟩
          have HB8 := Lib.hid (bstep HB7.out hb8)
          clear hb8
          go_wp2_with fail
          go_ret
          exact ⟨by simp, HB8.out⟩
        · obtain ⟨i1, i2, i3⟩ := HSI'.out (by first | rfl | trivial)
          have HS2 := Lib.hid (HAg.out (by first | rfl | trivial))
          obtain ⟨hn0, hn1⟩ := hn
          clear HSI' HSN HAg HSp
          go_wp2_with fail
          refine (HS2.out _).mono ?_
          rintro e w8 ⟨rfl, hb8⟩
          have HB8 := Lib.hid (bstep HB7.out hb8)
          clear hb8
          go_wp2_with fail
          go_ret
          exact ⟨by simp, HB8.out⟩

/-- What the walk gives, for every argument and every world that holds the table. -/
theorem contract (H : Type) (enc : TypeId × Value → H) (W : World) (base : Nat) (args : Array Value) (ds gs : List (DataW H)) (before : List MemPlace)
    (hval : ∀ (j : Nat) t v, Try.f8.params[j]? = some t → args[j]? = some v → Value.okWide Try.prog W .any base t v)
    (hW : DataW.Whole enc Try.prog Try.f8.params.toList Rows.boxBackSpec.vars false W args.toList ds gs before) (_hL : laidMetH Try.prog Rows.boxBackRow.laid W)
    (hreach : (DataW.weightsEach Try.prog (Try.f8.params.toList ++ []) (ds ++ gs)).all (· ≤ reachBytes) = true) :
    Calls Try.prog 8 args W fun e W' => ∃ v, e = .returned v ∧ Rows.boxBackSpec.post enc Try.prog Try.f8 false true false false W args v W' := by
  have hW' := hW
  clear _hL
  have hlts : ∀ x ∈ before, x.block < W.heap.size := fun x hx => hW'.lt x hx
  obtain ⟨p, q, hA0, hV, rfl, hfz, hnd⟩ := hW
  have hA : DataW.TrodAll enc Try.prog W 0 (fun _ => true) true Try.f8.params.toList args.toList ds p := hA0
  rw [Try.params8] at hA hval hreach
  obtain ⟨v0, vs0, d0, ds0, pp0, qq0, hargs, rfl, rfl, h0, rr0⟩ := trodAll_cons hA
  obtain ⟨v1, vs1, d1, ds1, pp1, qq1, rfl, rfl, rfl, h1, rr1⟩ := trodAll_cons rr0
  obtain ⟨v2, vs2, d2, ds2, pp2, qq2, rfl, rfl, rfl, h2, rr2⟩ := trodAll_cons rr1
  obtain ⟨rfl, rfl, rfl⟩ := trodAll_nil rr2
  obtain rfl : args = #[v0, v1, v2] := by cases args; simp_all
  obtain ⟨rfl, rfl⟩ := trodVars_none hV
  obtain ⟨t0, l0, b0, r0, rfl⟩ := box_in (hval 0 23 v0 rfl rfl) h0
  obtain ⟨b1, len1, cap1, rfl⟩ := okWide_slice Try.underlying39 (hval 1 39 v1 rfl rfl)
  have hin1 := ints_in2 h1 (fun el sp e => by subst e; exact sized_slice hreach (j := 1) rfl rfl Try.underlying39)
  obtain ⟨ns1, hlen1, hm1, hc1, hri1⟩ := hin1
  subst hlen1
  obtain ⟨a2, rfl, rfl, rfl, w2⟩ := open_int Try.underlying3 (hval 2 3 v2 rfl rfl) h2
  have lo2 := bounds_i64 w2
  clear hA0
  refine (walk t0 l0 b0 r0 b1 cap1 ns1 hm1 hc1 a2 lo2 W hri1).mono fun e W' ⟨he, hb⟩ => ?_
  subst he
  exact ⟨_, rfl, post_law laidOut (by kernel_rfl) (by kernel_rfl) rfl hW' rfl hb⟩

theorem laid_met (os : Os) : laidMet Try.prog Rows.boxBackRow.laid ((laidWorld os).forCall (fun _ _ => 0) ⟨#[], #[Value.agg #[.int .i64 0, .int .i64 0, .int .i64 0, .int .i64 0], Value.slice none 0 0, Value.int .i64 0], []⟩).memory :=
  laidMet_of_run' 8 (by kernel_rfl) (by kernel_rfl)
theorem reads (os : Os) {H : Type} (enc : TypeId × Value → H) : ∃ places, DataW.whole enc Try.prog ((laidWorld os).forCall (fun _ _ => 0) ⟨#[], #[Value.agg #[.int .i64 0, .int .i64 0, .int .i64 0, .int .i64 0], Value.slice none 0 0, Value.int .i64 0], []⟩).memory Try.f8.params.toList Rows.boxBackSpec.vars false (#[Value.agg #[.int .i64 0, .int .i64 0, .int .i64 0, .int .i64 0], Value.slice none 0 0, Value.int .i64 0] : Array Value).toList 8 = some ([.agg [.lit (.int .i64 0), .lit (.int .i64 0), .lit (.int .i64 0), .lit (.int .i64 0)], .nil, .lit (.int .i64 0)], [], places) :=
  ⟨[], by kernel_rfl⟩

set_option maxRecDepth 100000 in
theorem lifted (os : Os) (started : os.Started) (H : Type) (enc : TypeId × Value → H) (F : Stop.Interp) :
    ReturnsInHanded {} Try.checked os 8 .any ((OpenSpec.ofChange Rows.boxBackSpec).preRow enc Try.prog Try.f8 Rows.boxBackRow.domain false Rows.boxBackRow.laid) (((OpenSpec.ofChange Rows.boxBackSpec).at F).post enc Try.prog Try.f8 false true false false) := by
  obtain ⟨places, hx⟩ := reads os enc
  refine returnsInHanded_of_row (C := Try.checked) (s := OpenSpec.ofChange Rows.boxBackSpec) own started (by kernel_rfl) Try.func8
    (witness_row_at (enc := enc) (C := Try.checked) false (laidWorld os) #[Value.agg #[.int .i64 0, .int .i64 0, .int .i64 0, .int .i64 0], Value.slice none 0 0, Value.int .i64 0] rfl (by kernel_rfl) (by kernel_rfl) (by kernel_rfl)
      (OpenSpec.preRow_of_cond 8 hx (by kernel_rfl) (fun k hk => by cases hk) (by kernel_rfl) (laid_met os))) ?_
  intro W base args ds gs before hval hW _ _ hreach hL _ _
  exact contract H enc W base args ds gs before hval hW hL hreach

theorem said : Rows.BoxBackSaid :=
  OpenClaim.holds_of_cond 8 Try.f8 rfl rfl rfl rfl rfl rfl rfl ⟨rfl, rfl, rfl, rfl, rfl⟩ rfl rfl rfl rfl rfl (by kernel_rfl) Try.func8 (by kernel_rfl)
    (of_decide_eq_true (by kernel_rfl)) (by unfold Func.isWrapper; first | (rw [if_pos (by decide +kernel)]; kernel_rfl) | (rw [if_neg (by decide +kernel)]; exact ⟨rfl, rfl⟩))
    (fun os started H enc _ F => by rw [OpenClaim.pre_eq_preRow]; exact lifted os started H enc F)

#print axioms said
end Go.Proofs.Ythmodjnbpmigcaa.boxBack

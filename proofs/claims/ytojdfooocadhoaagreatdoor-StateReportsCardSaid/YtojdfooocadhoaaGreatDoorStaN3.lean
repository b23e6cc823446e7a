/-
  All of it, brought back by the document: all is well.
-/
import Derived.Test.YtojdfooocadhoaaGreatDoorStaN
namespace Go.Proofs.YtojdfooocadhoaaGreatDoor
open Go Go.RowKit
set_option maxRecDepth 100000 in
set_option maxHeartbeats 8000000 in
theorem refRestore_ok {x : Co} {H W it il ib ir : Int} (h : FrOk x.f H W it il ib ir) (hr0 : 0 ≤ x.K.rd) (hr1 : x.K.rd ≤ 255) (s : ByteArray) (hs : s.size ≤ 140737488355328) (her : (parseV s.data.toList).2 = 0) (hlen : (parseV s.data.toList).1.length = 12) (hgo : okL (clnP x H W it il ib ir) (parseV s.data.toList).1 (parseV s.data.toList).2 = true) (w : World) :
    Calls Tryz.prog 18 #[coV .i64 x, .string s] w fun e w' => e = .returned (.tuple #[coV .i64 (if okL (clnP x H W it il ib ir) (parseV s.data.toList).1 (parseV s.data.toList).2 = true then thenL (clnP x H W it il ib ir) (parseV s.data.toList).1 else clnP x H W it il ib ir), .bool (okL (clnP x H W it il ib ir) (parseV s.data.toList).1 (parseV s.data.toList).2)]) ∧ Below w.heap.size w w' := by
  have HCl := Lib.hid (fun V => refCleanC_any h hr0 hr1 V)
  have hk := cl_ok h
  have HPr := Lib.hid (fun V => refParse_all s hs V)
  have hpr := parseV_range s.data.toList
  generalize (parseV s.data.toList).1 = ns at *
  generalize (parseV s.data.toList).2 = er at *
  obtain ⟨y, hy⟩ : ∃ y, y = clnP x H W it il ib ir := ⟨_, rfl⟩
  rw [← hy] at HCl hk hgo ⊢
  clear h hr0 hr1 hy hs
  have hS1 := coS .i64 x; have hS2 := coS .i64 y; have hO2 := co_one .i64 y
  subst her
  obtain ⟨n0, n1, n2, n3, n4, n5, n6, n7, n8, n9, n10, n11, rfl⟩ : ∃ n0 n1 n2 n3 n4 n5 n6 n7 n8 n9 n10 n11, ns = [n0, n1, n2, n3, n4, n5, n6, n7, n8, n9, n10, n11] := by
    match ns, hlen with
    | [n0, n1, n2, n3, n4, n5, n6, n7, n8, n9, n10, n11], _ => exact ⟨n0, n1, n2, n3, n4, n5, n6, n7, n8, n9, n10, n11, rfl⟩
  have hin : ∀ n ∈ [n0, n1, n2, n3, n4, n5, n6, n7, n8, n9, n10, n11], 0 ≤ n ∧ n ≤ 65535 := hpr.1
  clear hpr hlen
  have hok : okL y [n0, n1, n2, n3, n4, n5, n6, n7, n8, n9, n10, n11] 0 = okN y n0 n1 n2 n3 n4 n5 n6 n7 n8 n9 n10 n11 := by unfold okL; simp
  have hth : thenL y [n0, n1, n2, n3, n4, n5, n6, n7, n8, n9, n10, n11] = thenP y n0 n1 n2 n3 n4 n5 n6 n7 n8 n9 n10 n11 := rfl
  rw [hok] at hgo
  rw [hok, hth]
  have hn2 := hin n2 (by simp); have hn3 := hin n3 (by simp)
  have w1 : IntKind.i64.wrap (4096 * n2) = 4096 * n2 := IntWalk.i64_in _ (by omega)
  have w2 : IntKind.i64.wrap (4096 * n2 + n3) = 4096 * n2 + n3 := IntWalk.i64_in _ (by omega)
  have hpart := ok_parts y n0 n1 n2 n3 n4 n5 n6 n7 n8 n9 n10 n11
  obtain ⟨okb, hokb⟩ : ∃ okb, okb = okN y n0 n1 n2 n3 n4 n5 n6 n7 n8 n9 n10 n11 := ⟨_, rfl⟩
  rw [← hokb] at hpart hgo ⊢
  replace hgo := Lib.hid hgo
  obtain ⟨R, hR⟩ : ∃ R, R = Value.tuple #[.agg (coC .i64 (if okb = true then thenP y n0 n1 n2 n3 n4 n5 n6 n7 n8 n9 n10 n11 else y)), .bool okb] := ⟨_, rfl⟩
  have hTv : coC .i64 (thenP y n0 n1 n2 n3 n4 n5 n6 n7 n8 n9 n10 n11) = #[.int .i64 y.r, .int .i64 y.c, .int .u8 y.K.rd, .bool y.K.kp, .bool y.wp, .bool (n11 == 1), .int .i64 y.K.a, .int .i64 y.K.b, .int .i64 y.K.c, .int .i64 y.K.d, .int .i64 y.K.l, .int .i64 y.K.r, .int .i64 y.K.s, .int .i64 y.f.pt, .int .i64 y.f.pl, .int .i64 y.f.pb, .int .i64 y.f.pr, .int .i64 n7, .int .i64 n8, .int .i64 n9, .int .i64 n10, .int .i64 ((n2 * 4096 + n3).toNat : Nat), .int .i64 n0, .bool (n1 == 1), .bool (n4 == 1), .int .i64 n5, .bool (n6 == 1), .int .i64 y.pg, .int .i64 y.ps] := rfl
  have hTe : (((n2 * 4096 + n3).toNat : Nat) : Int) = 4096 * n2 + n3 := by omega
  rw [hTe] at hTv
  unfold coV at *
  rw [← hR]
  replace hR := Lib.hid hR; replace hTv := Lib.hid hTv; replace hpart := Lib.hid hpart
  clear hok hth hokb hin hn2 hn3 hTe hk
  generalize coC .i64 x = X at *
  obtain ⟨Y, hY⟩ : ∃ Y, Y = coC .i64 y := ⟨_, rfl⟩
  have hYL : Y = #[.int .i64 y.r, .int .i64 y.c, .int .u8 y.K.rd, .bool y.K.kp, .bool y.wp, .bool y.K.og, .int .i64 y.K.a, .int .i64 y.K.b, .int .i64 y.K.c, .int .i64 y.K.d, .int .i64 y.K.l, .int .i64 y.K.r, .int .i64 y.K.s, .int .i64 y.f.pt, .int .i64 y.f.pl, .int .i64 y.f.pb, .int .i64 y.f.pr, .int .i64 y.f.mt, .int .i64 y.f.ml, .int .i64 y.f.mb, .int .i64 y.f.mr, .int .i64 y.m, .int .i64 y.lv, .bool y.eg, .bool y.st, .int .i64 y.su, .bool y.bl, .int .i64 y.pg, .int .i64 y.ps] := hY
  rw [← hY] at HCl hS2 hO2
  replace hYL := Lib.hid hYL
  clear hY
  --#f0
  have HS := Lib.hid (Bs.start2' w 33 33 X (zO .i64))
  go_enter Tryz.func18, Tryz.ntmps18
  go_wp2_with (first | (refine wpList_load_row rfl _ _ rfl w.heap.size rfl _ X (0, 0) _ HS.out.b0 under_cr rfl (by rw [hS1]; exact info_cr) ?_))
  refine (HCl.out _).mono ?_
  rintro e w1 ⟨rfl, hb⟩
  have HK1 := Lib.hid (HS.out.next hb)
  clear hb
  go_upto_region 2 with (refine wpList_store_row rfl _ _ _ rfl w.heap.size Y rfl rfl _ _ HK1.out.b0 (by rw [hS2]; exact info_cr) (by rw [hS1, hS2]) hO2 ?_)
  refine world_gen (fun V => Bs w [(w.heap.size, 33, Y), (w.heap.size + 1, 33, zO .i64)] V) (HK1.out.row Y) ?_
  intro w2 HV0
  replace HV0 := Lib.hid HV0
  clear HK1 HS HCl
  go_wp2_with fail
  refine (HPr.out _).mono ?_
  rintro e w3 ⟨⟨A, c, rfl, hown⟩, hb⟩
  obtain ⟨g, cur, rfl, hge, hgB, hcur⟩ := hown.blk12 (by simp)
  have HK2 := Lib.hid ((HV0.out.made ⟨hb.os, hb.tape, hb.output, hb.size, fun k hk _ => hb.block k hk⟩ hge hgB).sw1)
  clear hb hge hgB hown HPr HV0
  replace hcur := Lib.hid hcur
  --#f05
  go_upto_region 5 with fail
  have l0 : w3.cell? ⟨g, 0, none⟩ = some (.int .i64 n0) := (Blk.cell HK2.out.b1 0).trans (hcur.out 0 n0 rfl)
  have l1 : w3.cell? ⟨g, 1, none⟩ = some (.int .i64 n1) := (Blk.cell HK2.out.b1 1).trans (hcur.out 1 n1 rfl)
  have l2 : w3.cell? ⟨g, 2, none⟩ = some (.int .i64 n2) := (Blk.cell HK2.out.b1 2).trans (hcur.out 2 n2 rfl)
  have l3 : w3.cell? ⟨g, 3, none⟩ = some (.int .i64 n3) := (Blk.cell HK2.out.b1 3).trans (hcur.out 3 n3 rfl)
  have l4 : w3.cell? ⟨g, 4, none⟩ = some (.int .i64 n4) := (Blk.cell HK2.out.b1 4).trans (hcur.out 4 n4 rfl)
  have l5 : w3.cell? ⟨g, 5, none⟩ = some (.int .i64 n5) := (Blk.cell HK2.out.b1 5).trans (hcur.out 5 n5 rfl)
  have l6 : w3.cell? ⟨g, 6, none⟩ = some (.int .i64 n6) := (Blk.cell HK2.out.b1 6).trans (hcur.out 6 n6 rfl)
  have l7 : w3.cell? ⟨g, 7, none⟩ = some (.int .i64 n7) := (Blk.cell HK2.out.b1 7).trans (hcur.out 7 n7 rfl)
  have l8 : w3.cell? ⟨g, 8, none⟩ = some (.int .i64 n8) := (Blk.cell HK2.out.b1 8).trans (hcur.out 8 n8 rfl)
  have l9 : w3.cell? ⟨g, 9, none⟩ = some (.int .i64 n9) := (Blk.cell HK2.out.b1 9).trans (hcur.out 9 n9 rfl)
  have l10 : w3.cell? ⟨g, 10, none⟩ = some (.int .i64 n10) := (Blk.cell HK2.out.b1 10).trans (hcur.out 10 n10 rfl)
  have l11 : w3.cell? ⟨g, 11, none⟩ = some (.int .i64 n11) := (Blk.cell HK2.out.b1 11).trans (hcur.out 11 n11 rfl)
  have hcur3 := hcur
  clear hcur
  --#f1
  obtain ⟨r, c, wp, ⟨rd, kp, og, a, b, cc, d, l, rr, s⟩, ⟨pt, pl, pb, pr, mt, ml, mb, mr⟩, m, lv, eg, st, su, bl, pg, ps⟩ := y
  generalize hmz : (m : Int) = mz at *
  replace hmz := Lib.hid hmz
  simp only at *
  have HK3 : Hid (Bs w [(w.heap.size, 33, #[.int .i64 r, .int .i64 c, .int .u8 rd, .bool kp, .bool wp, .bool og, .int .i64 a, .int .i64 b, .int .i64 cc, .int .i64 d, .int .i64 l, .int .i64 rr, .int .i64 s, .int .i64 pt, .int .i64 pl, .int .i64 pb, .int .i64 pr, .int .i64 mt, .int .i64 ml, .int .i64 mb, .int .i64 mr, .int .i64 mz, .int .i64 lv, .bool eg, .bool st, .int .i64 su, .bool bl, .int .i64 pg, .int .i64 ps]), (g, 3, cur), (w.heap.size + 1, 33, zO .i64)] (w3)) := Lib.hid (by have := HK2.out; rw [hYL.out] at this; exact this)
  have hpart2 := hpart
  clear HK2 hpart
  generalize qd1 : decide (n1 < 2) = d1 at *
  generalize qd4 : decide (n4 < 2) = d4 at *
  generalize qd6 : decide (n6 < 2) = d6 at *
  generalize qd11 : decide (n11 < 2) = d11 at *
  clear l0 l2 l3 l5 l7 l8 l9 l10
  replace hR := Lib.hid hR.out
  obtain ⟨rfl, rfl, rfl, rfl⟩ : d1 = true ∧ d4 = true ∧ d6 = true ∧ d11 = true := by
    have h := hpart2.out
    rw [hgo.out] at h
    have h2 := h.symm
    simp only [Bool.and_eq_true] at h2
    exact ⟨h2.1.1, h2.1.2.1, h2.1.2.2.1, h2.1.2.2.2⟩
  go_cut [8] (fun sl wx => sl = .bool true ∧ wx = w3)
  case first =>
    go_wp2_with fail
    go_meet
    exact ⟨rfl, rfl⟩
  case rest =>
    obtain ⟨rfl, rfl⟩ := hcut
    clear qd1 qd4 qd6 qd11 l1 l4 l6 l11
    have l0 : wc.cell? ⟨g, 0, none⟩ = some (.int .i64 n0) := (Blk.cell HK3.out.b1 0).trans (hcur3.out 0 n0 rfl)
    have l2 : wc.cell? ⟨g, 2, none⟩ = some (.int .i64 n2) := (Blk.cell HK3.out.b1 2).trans (hcur3.out 2 n2 rfl)
    have l3 : wc.cell? ⟨g, 3, none⟩ = some (.int .i64 n3) := (Blk.cell HK3.out.b1 3).trans (hcur3.out 3 n3 rfl)
    have l5 : wc.cell? ⟨g, 5, none⟩ = some (.int .i64 n5) := (Blk.cell HK3.out.b1 5).trans (hcur3.out 5 n5 rfl)
    generalize qe0 : decide (n0 < 1) = e0 at *
    generalize qe1 : decide (5 < n0) = e1 at *
    generalize qe2 : decide (31 < n2) = e2 at *
    generalize qe3 : decide (4095 < n3) = e3 at *
    generalize qe4 : decide (2 < n5) = e4 at *
    obtain ⟨rfl, rfl, rfl, rfl, rfl⟩ : e0 = false ∧ e1 = false ∧ e2 = false ∧ e3 = false ∧ e4 = false := by
      have h := hpart2.out
      rw [hgo.out] at h
      have h2 := h.symm
      simp only [Bool.and_eq_true, Bool.not_eq_true', Bool.or_eq_false_iff] at h2
      exact ⟨h2.2.1.1, h2.2.1.2.1, h2.2.1.2.2.1, h2.2.1.2.2.2.1, h2.2.1.2.2.2.2⟩
    --#f2
    go_upto_region 6 with fail
    go_cut [78] (fun sl wx => sl = .bool false ∧ wx = wc)
    case first =>
      go_wp2_with fail
      go_meet
      exact ⟨rfl, rfl⟩
    case rest =>
      obtain ⟨rfl, rfl⟩ := hcut
      clear qe0 qe1 qe2 qe3 qe4 l0 l2 l3 l5
      rename World => w4
      --#f3
      have c13 : w4.cell? ⟨w.heap.size, 13, none⟩ = some (.int .i64 pt) := HK3.out.b0.cell 13
      have c14 : w4.cell? ⟨w.heap.size, 14, none⟩ = some (.int .i64 pl) := HK3.out.b0.cell 14
      have c15 : w4.cell? ⟨w.heap.size, 15, none⟩ = some (.int .i64 pb) := HK3.out.b0.cell 15
      have c16 : w4.cell? ⟨w.heap.size, 16, none⟩ = some (.int .i64 pr) := HK3.out.b0.cell 16
      go_upto_region 9 with fail
      refine world_gen (fun V => Bs w [(w4.heap.size, 29, #[.int .i64 pt, .int .i64 pl, .int .i64 pb, .int .i64 pr]), (w.heap.size, 33, #[.int .i64 r, .int .i64 c, .int .u8 rd, .bool kp, .bool wp, .bool og, .int .i64 a, .int .i64 b, .int .i64 cc, .int .i64 d, .int .i64 l, .int .i64 rr, .int .i64 s, .int .i64 pt, .int .i64 pl, .int .i64 pb, .int .i64 pr, .int .i64 mt, .int .i64 ml, .int .i64 mb, .int .i64 mr, .int .i64 mz, .int .i64 lv, .bool eg, .bool st, .int .i64 su, .bool bl, .int .i64 pg, .int .i64 ps]), (g, 3, cur), (w.heap.size + 1, 33, zO .i64)] (V)) (HK3.out.alloc 29 #[.int .i64 pt, .int .i64 pl, .int .i64 pb, .int .i64 pr]) ?_
      intro w5 H5
      generalize w4.heap.size = b9 at *
      have HK5 := Lib.hid H5
      clear H5 HK3 c13 c14 c15 c16
      obtain ⟨x0, x1, x2, x3, _⟩ := blk4 HK5.out.b0
      have l7 : w5.cell? ⟨g, 7, none⟩ = some (.int .i64 n7) := (Blk.cell HK5.out.b2 7).trans (hcur3.out 7 n7 rfl)
      have l8 : w5.cell? ⟨g, 8, none⟩ = some (.int .i64 n8) := (Blk.cell HK5.out.b2 8).trans (hcur3.out 8 n8 rfl)
      have l9 : w5.cell? ⟨g, 9, none⟩ = some (.int .i64 n9) := (Blk.cell HK5.out.b2 9).trans (hcur3.out 9 n9 rfl)
      have l10 : w5.cell? ⟨g, 10, none⟩ = some (.int .i64 n10) := (Blk.cell HK5.out.b2 10).trans (hcur3.out 10 n10 rfl)
      generalize qh7 : decide (n9 ≤ n7) = h7 at *
      generalize qh8 : decide (n10 ≤ n8) = h8 at *
      generalize qh9 : decide (pb < n9) = h9 at *
      generalize qh10 : decide (pr < n10) = h10 at *
      obtain ⟨rfl, rfl, rfl, rfl⟩ : h7 = false ∧ h8 = false ∧ h9 = false ∧ h10 = false := by
        have h := hpart2.out
        rw [hgo.out] at h
        have h2 := h.symm
        simp only [Bool.and_eq_true, Bool.not_eq_true', Bool.or_eq_false_iff] at h2
        exact ⟨h2.2.2.1, h2.2.2.2.1, h2.2.2.2.2.1, h2.2.2.2.2.2⟩
      --#f4
      try simp only [Act.put]
      go_cut [114] (fun sl wx => sl = .bool false ∧ Bs w [(w.heap.size, 33, #[.int .i64 r, .int .i64 c, .int .u8 rd, .bool kp, .bool wp, .bool og, .int .i64 a, .int .i64 b, .int .i64 cc, .int .i64 d, .int .i64 l, .int .i64 rr, .int .i64 s, .int .i64 pt, .int .i64 pl, .int .i64 pb, .int .i64 pr, .int .i64 mt, .int .i64 ml, .int .i64 mb, .int .i64 mr, .int .i64 mz, .int .i64 lv, .bool eg, .bool st, .int .i64 su, .bool bl, .int .i64 pg, .int .i64 ps]), (g, 3, cur), (w.heap.size + 1, 33, zO .i64)] (wx))
      case first =>
        go_quiet (fail)
        go_wp2_with fail
        go_meet
        exact ⟨rfl, HK5.out.tl.next (by first | exact Below.refl _ _ | exact below_drewN (Below.refl _ _) _ | exact (Bs.drewB (Bs.nil _)).bel)⟩
      case rest =>
        obtain ⟨rfl, H6⟩ := hcut
        rename World => w6
        have HK6 := Lib.hid H6
        clear H6 HK5 x0 x1 x2 x3 l7 l8 l9 l10 qh7 qh8 qh9 qh10
        have hob := hgo.out
        replace hob := Lib.hid hob
        --#f5
        have l0 : w6.cell? ⟨g, 0, none⟩ = some (.int .i64 n0) := (Blk.cell HK6.out.b1 0).trans (hcur3.out 0 n0 rfl)
        have c22 : w6.cell? ⟨w.heap.size, 22, none⟩ = some (.int .i64 lv) := HK6.out.b0.cell 22
        have z22 : w6.frozen? ⟨w.heap.size, 22, none⟩ = false := HK6.out.b0.frozen 22
        have hq1 : Bs w [(w.heap.size, 33, #[.int .i64 r, .int .i64 c, .int .u8 rd, .bool kp, .bool wp, .bool og, .int .i64 a, .int .i64 b, .int .i64 cc, .int .i64 d, .int .i64 l, .int .i64 rr, .int .i64 s, .int .i64 pt, .int .i64 pl, .int .i64 pb, .int .i64 pr, .int .i64 mt, .int .i64 ml, .int .i64 mb, .int .i64 mr, .int .i64 mz, .int .i64 n0, .bool eg, .bool st, .int .i64 su, .bool bl, .int .i64 pg, .int .i64 ps]), (g, 3, cur), (w.heap.size + 1, 33, zO .i64)] ((w6).setCell ⟨w.heap.size, 22, none⟩ (.int .i64 n0)) := HK6.out.s0 22 (.int .i64 n0)
        have HQ := Lib.hid hq1
        clear hq1
        go_upto_region 11 with fail
        try simp only [Act.put]
        go_cut [2] (fun sl wx => sl = .pointer (some ⟨w.heap.size, 0, none⟩) ∧ Bs w [(w.heap.size, 33, #[.int .i64 r, .int .i64 c, .int .u8 rd, .bool kp, .bool wp, .bool og, .int .i64 a, .int .i64 b, .int .i64 cc, .int .i64 d, .int .i64 l, .int .i64 rr, .int .i64 s, .int .i64 pt, .int .i64 pl, .int .i64 pb, .int .i64 pr, .int .i64 mt, .int .i64 ml, .int .i64 mb, .int .i64 mr, .int .i64 mz, .int .i64 n0, .bool eg, .bool st, .int .i64 su, .bool bl, .int .i64 pg, .int .i64 ps]), (g, 3, cur), (w.heap.size + 1, 33, zO .i64)] (wx))
        case first =>
          go_wp2_with fail
          go_meet
          exact ⟨rfl, HQ.out⟩
        case rest =>
          obtain ⟨rfl, HH11⟩ := hcut
          rename World => wd11
          have HR11 := Lib.hid HH11
          clear HH11 HQ HK6 l0 c22 z22
          --#s11
          have l1 : wd11.cell? ⟨g, 1, none⟩ = some (.int .i64 n1) := (Blk.cell HR11.out.b1 1).trans (hcur3.out 1 n1 rfl)
          have c23 : wd11.cell? ⟨w.heap.size, 23, none⟩ = some (.bool eg) := HR11.out.b0.cell 23
          have z23 : wd11.frozen? ⟨w.heap.size, 23, none⟩ = false := HR11.out.b0.frozen 23
          have hq1 : Bs w [(w.heap.size, 33, #[.int .i64 r, .int .i64 c, .int .u8 rd, .bool kp, .bool wp, .bool og, .int .i64 a, .int .i64 b, .int .i64 cc, .int .i64 d, .int .i64 l, .int .i64 rr, .int .i64 s, .int .i64 pt, .int .i64 pl, .int .i64 pb, .int .i64 pr, .int .i64 mt, .int .i64 ml, .int .i64 mb, .int .i64 mr, .int .i64 mz, .int .i64 n0, .bool (n1 == 1), .bool st, .int .i64 su, .bool bl, .int .i64 pg, .int .i64 ps]), (g, 3, cur), (w.heap.size + 1, 33, zO .i64)] ((wd11).setCell ⟨w.heap.size, 23, none⟩ (.bool (n1 == 1))) := HR11.out.s0 23 (.bool (n1 == 1))
          have HQ := Lib.hid hq1
          clear hq1
          go_upto_region 12 with fail
          try simp only [Act.put]
          go_cut [2] (fun sl wx => sl = .pointer (some ⟨w.heap.size, 0, none⟩) ∧ Bs w [(w.heap.size, 33, #[.int .i64 r, .int .i64 c, .int .u8 rd, .bool kp, .bool wp, .bool og, .int .i64 a, .int .i64 b, .int .i64 cc, .int .i64 d, .int .i64 l, .int .i64 rr, .int .i64 s, .int .i64 pt, .int .i64 pl, .int .i64 pb, .int .i64 pr, .int .i64 mt, .int .i64 ml, .int .i64 mb, .int .i64 mr, .int .i64 mz, .int .i64 n0, .bool (n1 == 1), .bool st, .int .i64 su, .bool bl, .int .i64 pg, .int .i64 ps]), (g, 3, cur), (w.heap.size + 1, 33, zO .i64)] (wx))
          case first =>
            go_wp2_with fail
            go_meet
            exact ⟨rfl, HQ.out⟩
          case rest =>
            obtain ⟨rfl, HH12⟩ := hcut
            rename World => wd12
            have HR12 := Lib.hid HH12
            clear HH12 HQ HR11 l1 c23 z23
            --#s12
            have l2 : wd12.cell? ⟨g, 2, none⟩ = some (.int .i64 n2) := (Blk.cell HR12.out.b1 2).trans (hcur3.out 2 n2 rfl)
            have l3 : wd12.cell? ⟨g, 3, none⟩ = some (.int .i64 n3) := (Blk.cell HR12.out.b1 3).trans (hcur3.out 3 n3 rfl)
            have c21 : wd12.cell? ⟨w.heap.size, 21, none⟩ = some (.int .i64 mz) := HR12.out.b0.cell 21
            have z21 : wd12.frozen? ⟨w.heap.size, 21, none⟩ = false := HR12.out.b0.frozen 21
            have hq1 : Bs w [(w.heap.size, 33, #[.int .i64 r, .int .i64 c, .int .u8 rd, .bool kp, .bool wp, .bool og, .int .i64 a, .int .i64 b, .int .i64 cc, .int .i64 d, .int .i64 l, .int .i64 rr, .int .i64 s, .int .i64 pt, .int .i64 pl, .int .i64 pb, .int .i64 pr, .int .i64 mt, .int .i64 ml, .int .i64 mb, .int .i64 mr, .int .i64 (4096 * n2 + n3), .int .i64 n0, .bool (n1 == 1), .bool st, .int .i64 su, .bool bl, .int .i64 pg, .int .i64 ps]), (g, 3, cur), (w.heap.size + 1, 33, zO .i64)] ((wd12).setCell ⟨w.heap.size, 21, none⟩ (.int .i64 (4096 * n2 + n3))) := HR12.out.s0 21 (.int .i64 (4096 * n2 + n3))
            have HQ := Lib.hid hq1
            clear hq1
            go_upto_region 13 with fail
            try simp only [Act.put]
            go_cut [2] (fun sl wx => sl = .pointer (some ⟨w.heap.size, 0, none⟩) ∧ Bs w [(w.heap.size, 33, #[.int .i64 r, .int .i64 c, .int .u8 rd, .bool kp, .bool wp, .bool og, .int .i64 a, .int .i64 b, .int .i64 cc, .int .i64 d, .int .i64 l, .int .i64 rr, .int .i64 s, .int .i64 pt, .int .i64 pl, .int .i64 pb, .int .i64 pr, .int .i64 mt, .int .i64 ml, .int .i64 mb, .int .i64 mr, .int .i64 (4096 * n2 + n3), .int .i64 n0, .bool (n1 == 1), .bool st, .int .i64 su, .bool bl, .int .i64 pg, .int .i64 ps]), (g, 3, cur), (w.heap.size + 1, 33, zO .i64)] (wx))
            case first =>
              go_region
              all_goals
                go_wp2_with fail
                go_meet
                exact ⟨rfl, HQ.out.drewB⟩
            case rest =>
              obtain ⟨rfl, HH13⟩ := hcut
              rename World => wd13
              have HR13 := Lib.hid HH13
              clear HH13 HQ HR12 l2 l3 c21 z21
              --#s13
              have l4 : wd13.cell? ⟨g, 4, none⟩ = some (.int .i64 n4) := (Blk.cell HR13.out.b1 4).trans (hcur3.out 4 n4 rfl)
              have c24 : wd13.cell? ⟨w.heap.size, 24, none⟩ = some (.bool st) := HR13.out.b0.cell 24
              have z24 : wd13.frozen? ⟨w.heap.size, 24, none⟩ = false := HR13.out.b0.frozen 24
              have hq1 : Bs w [(w.heap.size, 33, #[.int .i64 r, .int .i64 c, .int .u8 rd, .bool kp, .bool wp, .bool og, .int .i64 a, .int .i64 b, .int .i64 cc, .int .i64 d, .int .i64 l, .int .i64 rr, .int .i64 s, .int .i64 pt, .int .i64 pl, .int .i64 pb, .int .i64 pr, .int .i64 mt, .int .i64 ml, .int .i64 mb, .int .i64 mr, .int .i64 (4096 * n2 + n3), .int .i64 n0, .bool (n1 == 1), .bool (n4 == 1), .int .i64 su, .bool bl, .int .i64 pg, .int .i64 ps]), (g, 3, cur), (w.heap.size + 1, 33, zO .i64)] ((wd13).setCell ⟨w.heap.size, 24, none⟩ (.bool (n4 == 1))) := HR13.out.s0 24 (.bool (n4 == 1))
              have HQ := Lib.hid hq1
              clear hq1
              go_upto_region 14 with fail
              try simp only [Act.put]
              go_cut [2] (fun sl wx => sl = .pointer (some ⟨w.heap.size, 0, none⟩) ∧ Bs w [(w.heap.size, 33, #[.int .i64 r, .int .i64 c, .int .u8 rd, .bool kp, .bool wp, .bool og, .int .i64 a, .int .i64 b, .int .i64 cc, .int .i64 d, .int .i64 l, .int .i64 rr, .int .i64 s, .int .i64 pt, .int .i64 pl, .int .i64 pb, .int .i64 pr, .int .i64 mt, .int .i64 ml, .int .i64 mb, .int .i64 mr, .int .i64 (4096 * n2 + n3), .int .i64 n0, .bool (n1 == 1), .bool (n4 == 1), .int .i64 su, .bool bl, .int .i64 pg, .int .i64 ps]), (g, 3, cur), (w.heap.size + 1, 33, zO .i64)] (wx))
              case first =>
                go_wp2_with fail
                go_meet
                exact ⟨rfl, HQ.out⟩
              case rest =>
                obtain ⟨rfl, HH14⟩ := hcut
                rename World => wd14
                have HR14 := Lib.hid HH14
                clear HH14 HQ HR13 l4 c24 z24
                --#s14
                have l5 : wd14.cell? ⟨g, 5, none⟩ = some (.int .i64 n5) := (Blk.cell HR14.out.b1 5).trans (hcur3.out 5 n5 rfl)
                have c25 : wd14.cell? ⟨w.heap.size, 25, none⟩ = some (.int .i64 su) := HR14.out.b0.cell 25
                have z25 : wd14.frozen? ⟨w.heap.size, 25, none⟩ = false := HR14.out.b0.frozen 25
                have hq1 : Bs w [(w.heap.size, 33, #[.int .i64 r, .int .i64 c, .int .u8 rd, .bool kp, .bool wp, .bool og, .int .i64 a, .int .i64 b, .int .i64 cc, .int .i64 d, .int .i64 l, .int .i64 rr, .int .i64 s, .int .i64 pt, .int .i64 pl, .int .i64 pb, .int .i64 pr, .int .i64 mt, .int .i64 ml, .int .i64 mb, .int .i64 mr, .int .i64 (4096 * n2 + n3), .int .i64 n0, .bool (n1 == 1), .bool (n4 == 1), .int .i64 n5, .bool bl, .int .i64 pg, .int .i64 ps]), (g, 3, cur), (w.heap.size + 1, 33, zO .i64)] ((wd14).setCell ⟨w.heap.size, 25, none⟩ (.int .i64 n5)) := HR14.out.s0 25 (.int .i64 n5)
                have HQ := Lib.hid hq1
                clear hq1
                go_upto_region 15 with fail
                try simp only [Act.put]
                go_cut [2] (fun sl wx => sl = .pointer (some ⟨w.heap.size, 0, none⟩) ∧ Bs w [(w.heap.size, 33, #[.int .i64 r, .int .i64 c, .int .u8 rd, .bool kp, .bool wp, .bool og, .int .i64 a, .int .i64 b, .int .i64 cc, .int .i64 d, .int .i64 l, .int .i64 rr, .int .i64 s, .int .i64 pt, .int .i64 pl, .int .i64 pb, .int .i64 pr, .int .i64 mt, .int .i64 ml, .int .i64 mb, .int .i64 mr, .int .i64 (4096 * n2 + n3), .int .i64 n0, .bool (n1 == 1), .bool (n4 == 1), .int .i64 n5, .bool bl, .int .i64 pg, .int .i64 ps]), (g, 3, cur), (w.heap.size + 1, 33, zO .i64)] (wx))
                case first =>
                  go_wp2_with fail
                  go_meet
                  exact ⟨rfl, HQ.out⟩
                case rest =>
                  obtain ⟨rfl, HH15⟩ := hcut
                  rename World => wd15
                  have HR15 := Lib.hid HH15
                  clear HH15 HQ HR14 l5 c25 z25
                  --#s15
                  have l6 : wd15.cell? ⟨g, 6, none⟩ = some (.int .i64 n6) := (Blk.cell HR15.out.b1 6).trans (hcur3.out 6 n6 rfl)
                  have c26 : wd15.cell? ⟨w.heap.size, 26, none⟩ = some (.bool bl) := HR15.out.b0.cell 26
                  have z26 : wd15.frozen? ⟨w.heap.size, 26, none⟩ = false := HR15.out.b0.frozen 26
                  have hq1 : Bs w [(w.heap.size, 33, #[.int .i64 r, .int .i64 c, .int .u8 rd, .bool kp, .bool wp, .bool og, .int .i64 a, .int .i64 b, .int .i64 cc, .int .i64 d, .int .i64 l, .int .i64 rr, .int .i64 s, .int .i64 pt, .int .i64 pl, .int .i64 pb, .int .i64 pr, .int .i64 mt, .int .i64 ml, .int .i64 mb, .int .i64 mr, .int .i64 (4096 * n2 + n3), .int .i64 n0, .bool (n1 == 1), .bool (n4 == 1), .int .i64 n5, .bool (n6 == 1), .int .i64 pg, .int .i64 ps]), (g, 3, cur), (w.heap.size + 1, 33, zO .i64)] ((wd15).setCell ⟨w.heap.size, 26, none⟩ (.bool (n6 == 1))) := HR15.out.s0 26 (.bool (n6 == 1))
                  have HQ := Lib.hid hq1
                  clear hq1
                  go_upto_region 16 with fail
                  try simp only [Act.put]
                  go_cut [2] (fun sl wx => sl = .pointer (some ⟨w.heap.size, 0, none⟩) ∧ Bs w [(w.heap.size, 33, #[.int .i64 r, .int .i64 c, .int .u8 rd, .bool kp, .bool wp, .bool og, .int .i64 a, .int .i64 b, .int .i64 cc, .int .i64 d, .int .i64 l, .int .i64 rr, .int .i64 s, .int .i64 pt, .int .i64 pl, .int .i64 pb, .int .i64 pr, .int .i64 mt, .int .i64 ml, .int .i64 mb, .int .i64 mr, .int .i64 (4096 * n2 + n3), .int .i64 n0, .bool (n1 == 1), .bool (n4 == 1), .int .i64 n5, .bool (n6 == 1), .int .i64 pg, .int .i64 ps]), (g, 3, cur), (w.heap.size + 1, 33, zO .i64)] (wx))
                  case first =>
                    go_wp2_with fail
                    go_meet
                    exact ⟨rfl, HQ.out⟩
                  case rest =>
                    obtain ⟨rfl, HH16⟩ := hcut
                    rename World => wd16
                    have HR16 := Lib.hid HH16
                    clear HH16 HQ HR15 l6 c26 z26
                    --#s16
                    have l7 : wd16.cell? ⟨g, 7, none⟩ = some (.int .i64 n7) := (Blk.cell HR16.out.b1 7).trans (hcur3.out 7 n7 rfl)
                    have l8 : wd16.cell? ⟨g, 8, none⟩ = some (.int .i64 n8) := (Blk.cell HR16.out.b1 8).trans (hcur3.out 8 n8 rfl)
                    have l9 : wd16.cell? ⟨g, 9, none⟩ = some (.int .i64 n9) := (Blk.cell HR16.out.b1 9).trans (hcur3.out 9 n9 rfl)
                    have l10 : wd16.cell? ⟨g, 10, none⟩ = some (.int .i64 n10) := (Blk.cell HR16.out.b1 10).trans (hcur3.out 10 n10 rfl)
                    have c17 : wd16.cell? ⟨w.heap.size, 17, none⟩ = some (.int .i64 mt) := HR16.out.b0.cell 17
                    have z17 : wd16.frozen? ⟨w.heap.size, 17, none⟩ = false := HR16.out.b0.frozen 17
                    have c18 : wd16.cell? ⟨w.heap.size, 18, none⟩ = some (.int .i64 ml) := HR16.out.b0.cell 18
                    have z18 : wd16.frozen? ⟨w.heap.size, 18, none⟩ = false := HR16.out.b0.frozen 18
                    have c19 : wd16.cell? ⟨w.heap.size, 19, none⟩ = some (.int .i64 mb) := HR16.out.b0.cell 19
                    have z19 : wd16.frozen? ⟨w.heap.size, 19, none⟩ = false := HR16.out.b0.frozen 19
                    have c20 : wd16.cell? ⟨w.heap.size, 20, none⟩ = some (.int .i64 mr) := HR16.out.b0.cell 20
                    have z20 : wd16.frozen? ⟨w.heap.size, 20, none⟩ = false := HR16.out.b0.frozen 20
                    have hq1 : Bs w [(w.heap.size, 33, #[.int .i64 r, .int .i64 c, .int .u8 rd, .bool kp, .bool wp, .bool og, .int .i64 a, .int .i64 b, .int .i64 cc, .int .i64 d, .int .i64 l, .int .i64 rr, .int .i64 s, .int .i64 pt, .int .i64 pl, .int .i64 pb, .int .i64 pr, .int .i64 n7, .int .i64 ml, .int .i64 mb, .int .i64 mr, .int .i64 (4096 * n2 + n3), .int .i64 n0, .bool (n1 == 1), .bool (n4 == 1), .int .i64 n5, .bool (n6 == 1), .int .i64 pg, .int .i64 ps]), (g, 3, cur), (w.heap.size + 1, 33, zO .i64)] ((wd16).setCell ⟨w.heap.size, 17, none⟩ (.int .i64 n7)) := HR16.out.s0 17 (.int .i64 n7)
                    have hq2 : Bs w [(w.heap.size, 33, #[.int .i64 r, .int .i64 c, .int .u8 rd, .bool kp, .bool wp, .bool og, .int .i64 a, .int .i64 b, .int .i64 cc, .int .i64 d, .int .i64 l, .int .i64 rr, .int .i64 s, .int .i64 pt, .int .i64 pl, .int .i64 pb, .int .i64 pr, .int .i64 n7, .int .i64 n8, .int .i64 mb, .int .i64 mr, .int .i64 (4096 * n2 + n3), .int .i64 n0, .bool (n1 == 1), .bool (n4 == 1), .int .i64 n5, .bool (n6 == 1), .int .i64 pg, .int .i64 ps]), (g, 3, cur), (w.heap.size + 1, 33, zO .i64)] (((wd16).setCell ⟨w.heap.size, 17, none⟩ (.int .i64 n7)).setCell ⟨w.heap.size, 18, none⟩ (.int .i64 n8)) := hq1.s0 18 (.int .i64 n8)
                    have hq3 : Bs w [(w.heap.size, 33, #[.int .i64 r, .int .i64 c, .int .u8 rd, .bool kp, .bool wp, .bool og, .int .i64 a, .int .i64 b, .int .i64 cc, .int .i64 d, .int .i64 l, .int .i64 rr, .int .i64 s, .int .i64 pt, .int .i64 pl, .int .i64 pb, .int .i64 pr, .int .i64 n7, .int .i64 n8, .int .i64 n9, .int .i64 mr, .int .i64 (4096 * n2 + n3), .int .i64 n0, .bool (n1 == 1), .bool (n4 == 1), .int .i64 n5, .bool (n6 == 1), .int .i64 pg, .int .i64 ps]), (g, 3, cur), (w.heap.size + 1, 33, zO .i64)] ((((wd16).setCell ⟨w.heap.size, 17, none⟩ (.int .i64 n7)).setCell ⟨w.heap.size, 18, none⟩ (.int .i64 n8)).setCell ⟨w.heap.size, 19, none⟩ (.int .i64 n9)) := hq2.s0 19 (.int .i64 n9)
                    have hq4 : Bs w [(w.heap.size, 33, #[.int .i64 r, .int .i64 c, .int .u8 rd, .bool kp, .bool wp, .bool og, .int .i64 a, .int .i64 b, .int .i64 cc, .int .i64 d, .int .i64 l, .int .i64 rr, .int .i64 s, .int .i64 pt, .int .i64 pl, .int .i64 pb, .int .i64 pr, .int .i64 n7, .int .i64 n8, .int .i64 n9, .int .i64 n10, .int .i64 (4096 * n2 + n3), .int .i64 n0, .bool (n1 == 1), .bool (n4 == 1), .int .i64 n5, .bool (n6 == 1), .int .i64 pg, .int .i64 ps]), (g, 3, cur), (w.heap.size + 1, 33, zO .i64)] (((((wd16).setCell ⟨w.heap.size, 17, none⟩ (.int .i64 n7)).setCell ⟨w.heap.size, 18, none⟩ (.int .i64 n8)).setCell ⟨w.heap.size, 19, none⟩ (.int .i64 n9)).setCell ⟨w.heap.size, 20, none⟩ (.int .i64 n10)) := hq3.s0 20 (.int .i64 n10)
                    have HQ := Lib.hid hq4
                    clear hq1 hq2 hq3 hq4
                    go_upto_region 17 with fail
                    try simp only [Act.put]
                    go_cut [2] (fun sl wx => sl = .pointer (some ⟨w.heap.size, 0, none⟩) ∧ Bs w [(w.heap.size, 33, #[.int .i64 r, .int .i64 c, .int .u8 rd, .bool kp, .bool wp, .bool og, .int .i64 a, .int .i64 b, .int .i64 cc, .int .i64 d, .int .i64 l, .int .i64 rr, .int .i64 s, .int .i64 pt, .int .i64 pl, .int .i64 pb, .int .i64 pr, .int .i64 n7, .int .i64 n8, .int .i64 n9, .int .i64 n10, .int .i64 (4096 * n2 + n3), .int .i64 n0, .bool (n1 == 1), .bool (n4 == 1), .int .i64 n5, .bool (n6 == 1), .int .i64 pg, .int .i64 ps]), (g, 3, cur), (w.heap.size + 1, 33, zO .i64)] (wx))
                    case first =>
                      go_region
                      all_goals
                        go_wp2_with fail
                        go_meet
                        exact ⟨rfl, HQ.out.drewB⟩
                    case rest =>
                      obtain ⟨rfl, HH17⟩ := hcut
                      rename World => wd17
                      have HR17 := Lib.hid HH17
                      clear HH17 HQ HR16 l7 l8 l9 l10 c17 z17 c18 z18 c19 z19 c20 z20
                      --#s17
                      have l11 : wd17.cell? ⟨g, 11, none⟩ = some (.int .i64 n11) := (Blk.cell HR17.out.b1 11).trans (hcur3.out 11 n11 rfl)
                      have c5 : wd17.cell? ⟨w.heap.size, 5, none⟩ = some (.bool og) := HR17.out.b0.cell 5
                      have z5 : wd17.frozen? ⟨w.heap.size, 5, none⟩ = false := HR17.out.b0.frozen 5
                      have hq1 : Bs w [(w.heap.size, 33, #[.int .i64 r, .int .i64 c, .int .u8 rd, .bool kp, .bool wp, .bool (n11 == 1), .int .i64 a, .int .i64 b, .int .i64 cc, .int .i64 d, .int .i64 l, .int .i64 rr, .int .i64 s, .int .i64 pt, .int .i64 pl, .int .i64 pb, .int .i64 pr, .int .i64 n7, .int .i64 n8, .int .i64 n9, .int .i64 n10, .int .i64 (4096 * n2 + n3), .int .i64 n0, .bool (n1 == 1), .bool (n4 == 1), .int .i64 n5, .bool (n6 == 1), .int .i64 pg, .int .i64 ps]), (g, 3, cur), (w.heap.size + 1, 33, zO .i64)] ((wd17).setCell ⟨w.heap.size, 5, none⟩ (.bool (n11 == 1))) := HR17.out.s0 5 (.bool (n11 == 1))
                      have HQ := Lib.hid hq1
                      clear hq1
                      go_upto_region 18 with fail
                      try simp only [Act.put]
                      go_cut [2] (fun sl wx => sl = .pointer (some ⟨w.heap.size, 0, none⟩) ∧ Bs w [(w.heap.size, 33, #[.int .i64 r, .int .i64 c, .int .u8 rd, .bool kp, .bool wp, .bool (n11 == 1), .int .i64 a, .int .i64 b, .int .i64 cc, .int .i64 d, .int .i64 l, .int .i64 rr, .int .i64 s, .int .i64 pt, .int .i64 pl, .int .i64 pb, .int .i64 pr, .int .i64 n7, .int .i64 n8, .int .i64 n9, .int .i64 n10, .int .i64 (4096 * n2 + n3), .int .i64 n0, .bool (n1 == 1), .bool (n4 == 1), .int .i64 n5, .bool (n6 == 1), .int .i64 pg, .int .i64 ps]), (g, 3, cur), (w.heap.size + 1, 33, zO .i64)] (wx))
                      case first =>
                        go_wp2_with fail
                        go_meet
                        exact ⟨rfl, HQ.out⟩
                      case rest =>
                        obtain ⟨rfl, HH18⟩ := hcut
                        rename World => wd18
                        have HR18 := Lib.hid HH18
                        clear HH18 HQ HR17 l11 c5 z5
                        --#s18
                        have HKf := Lib.hid (HR18.out.tl.tl.row (#[.int .i64 r, .int .i64 c, .int .u8 rd, .bool kp, .bool wp, .bool (n11 == 1), .int .i64 a, .int .i64 b, .int .i64 cc, .int .i64 d, .int .i64 l, .int .i64 rr, .int .i64 s, .int .i64 pt, .int .i64 pl, .int .i64 pb, .int .i64 pr, .int .i64 n7, .int .i64 n8, .int .i64 n9, .int .i64 n10, .int .i64 (4096 * n2 + n3), .int .i64 n0, .bool (n1 == 1), .bool (n4 == 1), .int .i64 n5, .bool (n6 == 1), .int .i64 pg, .int .i64 ps]))
                        go_upto_region 19 with fail
                        go_step
                        refine wpList_load_row rfl _ _ rfl w.heap.size rfl _ (#[.int .i64 r, .int .i64 c, .int .u8 rd, .bool kp, .bool wp, .bool (n11 == 1), .int .i64 a, .int .i64 b, .int .i64 cc, .int .i64 d, .int .i64 l, .int .i64 rr, .int .i64 s, .int .i64 pt, .int .i64 pl, .int .i64 pb, .int .i64 pr, .int .i64 n7, .int .i64 n8, .int .i64 n9, .int .i64 n10, .int .i64 (4096 * n2 + n3), .int .i64 n0, .bool (n1 == 1), .bool (n4 == 1), .int .i64 n5, .bool (n6 == 1), .int .i64 pg, .int .i64 ps]) (0, 0) _ HR18.out.b0 under_cr rfl info_cr ?_
                        refine wpList_store_row rfl _ _ _ rfl (w.heap.size + 1) (#[.int .i64 r, .int .i64 c, .int .u8 rd, .bool kp, .bool wp, .bool (n11 == 1), .int .i64 a, .int .i64 b, .int .i64 cc, .int .i64 d, .int .i64 l, .int .i64 rr, .int .i64 s, .int .i64 pt, .int .i64 pl, .int .i64 pb, .int .i64 pr, .int .i64 n7, .int .i64 n8, .int .i64 n9, .int .i64 n10, .int .i64 (4096 * n2 + n3), .int .i64 n0, .bool (n1 == 1), .bool (n4 == 1), .int .i64 n5, .bool (n6 == 1), .int .i64 pg, .int .i64 ps]) rfl rfl _ _ HR18.out.b2 info_cr rfl (by kernel_rfl) ?_
                        repeat go_step
                        refine bodyPost_ret (v := .tuple #[.agg #[.int .i64 r, .int .i64 c, .int .u8 rd, .bool kp, .bool wp, .bool (n11 == 1), .int .i64 a, .int .i64 b, .int .i64 cc, .int .i64 d, .int .i64 l, .int .i64 rr, .int .i64 s, .int .i64 pt, .int .i64 pl, .int .i64 pb, .int .i64 pr, .int .i64 n7, .int .i64 n8, .int .i64 n9, .int .i64 n10, .int .i64 (4096 * n2 + n3), .int .i64 n0, .bool (n1 == 1), .bool (n4 == 1), .int .i64 n5, .bool (n6 == 1), .int .i64 pg, .int .i64 ps], .bool true]) (results_row_tmp rfl _ _ (w.heap.size + 1) 33 (#[.int .i64 r, .int .i64 c, .int .u8 rd, .bool kp, .bool wp, .bool (n11 == 1), .int .i64 a, .int .i64 b, .int .i64 cc, .int .i64 d, .int .i64 l, .int .i64 rr, .int .i64 s, .int .i64 pt, .int .i64 pl, .int .i64 pb, .int .i64 pr, .int .i64 n7, .int .i64 n8, .int .i64 n9, .int .i64 n10, .int .i64 (4096 * n2 + n3), .int .i64 n0, .bool (n1 == 1), .bool (n4 == 1), .int .i64 n5, .bool (n6 == 1), .int .i64 pg, .int .i64 ps]) (0, 0) _ (.bool true) rfl rfl HKf.out.b0 under_cr rfl info_cr) rfl ⟨?_, HKf.out.bel⟩
                        rw [hR.out, hob.out]
                        simp only [if_true]
                        rw [hTv.out]
end Go.Proofs.YtojdfooocadhoaaGreatDoor

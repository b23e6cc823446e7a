/-
  CursGoes holds, whatever the input.
-/
import Derived.Test.YtilfhilebdkmkaaFrame0
import Derived.Test.YtilfhilebdkmkaaCurM
import Derived.Test.YtilfhilebdkmkaaCurP
import Derived.Test.YtilfhilebdkmkaaCurO
import Derived.Test.YtilfhilebdkmkaaFrameU
namespace Go.Proofs.Ytilfhilebdkmkaa.cursGoes
open Go.ChangeShapes Go.WideShapes Go.ChangeAt Go.RowKit
open Go.ChangeMaps (open_string)

theorem goes_eq (n t b : Int) (h : t < b) (hb : b ≤ 2000) (ht : 0 ≤ t) : lineP n t b = clipP (t + max 0 (min n 100000)) t (b - 1) := by
  unfold lineP clipP; omega
theorem fld_posR (a b : Value) (W : World) : (Instr.field 41 (.agg #[a, b]) 0).run Try.prog W = .ok a W := by kernel_rfl
set_option maxRecDepth 100000 in
set_option maxHeartbeats 16000000 in
theorem walk (r c : Int) (wp : Bool) (K : CK) (f : Fr) (n m : Int) (w : World) :
    Calls Try.prog 7 #[uV r c wp K, fV f, pV n m] w fun e w' => e = .returned (.bool true) ∧ Below w.heap.size w w' := by
  have HAw := Lib.hid (fun V => awakeC_any V)
  have HSm := Lib.hid (fun V => smallF_any f V)
  have HK := Lib.hid (show Bs w [(w.heap.size + 1 + 1, 41, sC n m), (w.heap.size + 1, 31, fC f), (w.heap.size, 27, uC r c wp K)] _ from Bs.start3 w 27 31 41 (uC r c wp K) (fC f) (sC n m))
  rcases hsm : smF f with _ | _
  · rw [hsm] at HSm
    clear hsm
    unfold uV fV pV at *
    go_enter Try.func7, Try.ntmps7
    go_wp2_with fail
    refine (HAw.out _).mono ?_
    rintro e w1 ⟨rfl, hb1⟩
    have HK1 := Lib.hid (HK.out.next hb1)
    clear hb1 HK
    obtain ⟨a0, a1, a2, a3, a4, a5, a6, a7⟩ := fra8 HK1.out.b1
    go_wp2_with fail
    refine (HSm.out _).mono ?_
    rintro e w2 ⟨rfl, hb2⟩
    have HK2 := Lib.hid (HK1.out.next hb2)
    clear hb2 HK1 a0 a1 a2 a3 a4 a5 a6 a7
    go_wp2_with fail
    go_ret
    exact ⟨rfl, HK2.out.bel⟩
  · rw [hsm] at HSm
    obtain ⟨H, W, it, il, ib, ir, h⟩ := fr_ok f (by unfold smF at hsm; simp at hsm; omega) (by unfold smF at hsm; simp at hsm; omega)
    clear hsm
    have hp := pick_in h K.og
    have HFr := Lib.hid (fun V => lFrame_any f V)
    have HO := Lib.hid (fun V => cOwn_any r c wp K V)
    have HTo := Lib.hid (fun V => to_any h r c wp K n m V)
    have HT2 := Lib.hid (fun V => to_any h (lineP n (pick K.og it 0) (pick K.og ib H)) (lineP m (pick K.og il 0) (pick K.og ir W)) false K n m V)
    have HR := Lib.hid (fun V => toRow_any h r c wp K n V)
    have HRC := Lib.hid (fun V => toCol_any h (lineP n (pick K.og it 0) (pick K.og ib H)) (clipP c (pick K.og il 0) (pick K.og ir W - 1)) false K m V)
    have HC := Lib.hid (fun V => toCol_any h r c wp K m V)
    have HCR := Lib.hid (fun V => toRow_any h (clipP r (pick K.og it 0) (pick K.og ib H - 1)) (lineP m (pick K.og il 0) (pick K.og ir W)) false K n V)
    have hx := lineP_in n (pick K.og it 0) (pick K.og ib H) (by omega)
    have hy := lineP_in m (pick K.og il 0) (pick K.og ir W) (by omega)
    have HAr := Lib.hid (fun V => fArea_any h K.og V)
    have HCl := Lib.hid (fun V => refBClamp_any (pick K.og it 0) (pick K.og il 0) (pick K.og ib H) (pick K.og ir W) (pick K.og it 0 + max 0 (min n 100000)) (pick K.og il 0) (by unfold Sm; omega) (by unfold Sm; omega) (by unfold Sm; omega) (by unfold Sm; omega) V)
    have hge := goes_eq n (pick K.og it 0) (pick K.og ib H) (by omega) (by omega) (by omega)
    rw [show refClampT (pick K.og it 0) (pick K.og il 0) (pick K.og ib H) (pick K.og ir W) (pick K.og it 0 + max 0 (min n 100000)) (pick K.og il 0) = (clipP (pick K.og it 0 + max 0 (min n 100000)) (pick K.og it 0) (pick K.og ib H - 1), clipP (pick K.og il 0) (pick K.og il 0) (pick K.og ir W - 1)) from by
      unfold refClampT
      rw [if_neg (by unfold bEm emB; simp; omega), near_clipC _ _ _ (by omega), near_clipC _ _ _ (by omega)], ← hge] at HCl
    simp only at HCl
    clear hge
    generalize pick K.og it 0 = t at *
    generalize pick K.og il 0 = l at *
    generalize pick K.og ib H = b at *
    generalize pick K.og ir W = rr at *
    generalize clipP l l (rr - 1) = lq at *
    generalize lineP n t b = x at *
    generalize lineP m l rr = y at *
    rw [show clipP x t (b - 1) = x from by unfold clipP; omega] at HRC
    rw [show clipP y l (rr - 1) = y from by unfold clipP; omega] at HCR
    have hz : max 0 (min n 100000) = (if 0 < (if 100000 < n then 100000 else n) then (if 100000 < n then 100000 else n) else 0) := by split <;> split <;> omega
    have HWr : Hid (IntKind.i64.wrap (t + (if 0 < (if 100000 < n then 100000 else n) then (if 100000 < n then 100000 else n) else 0)) = t + (if 0 < (if 100000 < n then 100000 else n) then (if 100000 < n then 100000 else n) else 0)) := Lib.hid (IntWalk.i64_in _ (by rw [← hz]; omega))
    rw [hz] at HCl
    clear hz hp hx hy h
    generalize clipP r t (b - 1) = rq at *
    generalize clipP c l (rr - 1) = cq at *
    have HE := Lib.hid (fun W => neq_curU W x y K.rd K.kp false K.og K.a K.b K.c K.d K.l K.r K.s)
    have HG := Lib.hid guard_curU
    have HI := Lib.hid (fun W => eql_stI W K.a K.b K.c K.d K.l K.r K.s)
    have HGI := Lib.hid guard_stI
    unfold uV fV pV bV at *
    go_enter Try.func7, Try.ntmps7
    go_wp2_with fail
    refine (HAw.out _).mono ?_
    rintro e w1 ⟨rfl, hb1⟩
    have HK1 := Lib.hid (HK.out.next hb1)
    clear hb1 HK
    obtain ⟨a0, a1, a2, a3, a4, a5, a6, a7⟩ := fra8 HK1.out.b1
    go_wp2_with fail
    refine (HSm.out _).mono ?_
    rintro e w2 ⟨rfl, hb2⟩
    have HK2 := Lib.hid (HK1.out.next hb2)
    clear hb2 HK1 a0 a1 a2 a3 a4 a5 a6 a7
    go_upto_region 5 with fail
    have HX := Lib.hid (fun w' (h : Only [] w2 w') => And.intro (fra8 (h.blk HK2.out.b1 (by simp))) (cur13 (h.blk HK2.out.b2 (by simp))))
    refine wp_region_mix_lit (by kernel_rfl) [(1, .call (.agg #[.int .i64 f.pt, .int .i64 f.pl, .int .i64 f.pb, .int .i64 f.pr, .int .i64 f.mt, .int .i64 f.ml, .int .i64 f.mb, .int .i64 f.mr])), (3, .call (.agg #[.int .i64 r, .int .i64 c, .int .u8 K.rd, .bool K.kp, .bool wp, .bool K.og, .int .i64 K.a, .int .i64 K.b, .int .i64 K.c, .int .i64 K.d, .int .i64 K.l, .int .i64 K.r, .int .i64 K.s])), (4, .alloc 6 35 #[.int .i64 0, .int .i64 0, .int .i64 0, .int .i64 0, .int .i64 0, .int .i64 0, .int .i64 0, .int .i64 0] (fun _ => #[.int .i64 f.pt, .int .i64 f.pl, .int .i64 f.pb, .int .i64 f.pr, .int .i64 f.mt, .int .i64 f.ml, .int .i64 f.mb, .int .i64 f.mr])), (5, .alloc 7 44 zU (fun _ => #[.int .i64 r, .int .i64 c, .int .u8 K.rd, .bool K.kp, .bool wp, .bool K.og, .int .i64 K.a, .int .i64 K.b, .int .i64 K.c, .int .i64 K.d, .int .i64 K.l, .int .i64 K.r, .int .i64 K.s])), (6, .init 4), (7, .init 5)] (by kernel_rfl) (by kernel_rfl) (by kernel_rfl) (by rfl) (by simp [apartK] <;> omega) (by simp [startK]) (by simp [stabK]) (⟨fun _ => .pointer (some ⟨w2.heap.size, 0, none⟩), by simp [okK]⟩) (fun β hβ => ?_)
    repeat (
      refine lex_val (v := ?_) rfl rfl (fun w' hf => ?_) ?_
      rotate_left
      · obtain ⟨⟨a0, a1, a2, a3, a4, a5, a6, a7⟩, c0, c1, c2, c3, c4, c5, c6, c7, c8, c9, c10, c11, c12⟩ := HX.out w' hf.only; go_simp
        try rfl
      try simp only [Act.put, List.setIfInBounds_toArray, List.set_cons_zero, List.set_cons_succ])
    refine lex_call (f := 10) (args := ?_) rfl rfl (fun w' hf => ?_) (fun w' hf => ?_) ?_
    rotate_left
    · go_simp
      try rfl
    · exact HFr.out w'
    try simp only [Act.put, List.setIfInBounds_toArray, List.set_cons_zero, List.set_cons_succ]
    repeat (
      refine lex_val (v := ?_) rfl rfl (fun w' hf => ?_) ?_
      rotate_left
      · obtain ⟨⟨a0, a1, a2, a3, a4, a5, a6, a7⟩, c0, c1, c2, c3, c4, c5, c6, c7, c8, c9, c10, c11, c12⟩ := HX.out w' hf.only; go_simp
        try rfl
      try simp only [Act.put, List.setIfInBounds_toArray, List.set_cons_zero, List.set_cons_succ])
    refine lex_call (f := 16) (args := ?_) rfl rfl (fun w' hf => ?_) (fun w' hf => ?_) ?_
    rotate_left
    · go_simp
      try rfl
    · exact HO.out w'
    try simp only [Act.put, List.setIfInBounds_toArray, List.set_cons_zero, List.set_cons_succ]
    refine lex_alloc rfl rfl (fun w' => ?_) ?_
    · go_simp
    try simp only [Act.put, List.setIfInBounds_toArray, List.set_cons_zero, List.set_cons_succ]
    refine lex_alloc rfl rfl (fun w' => ?_) ?_
    · go_simp
    try simp only [Act.put, List.setIfInBounds_toArray, List.set_cons_zero, List.set_cons_succ]
    refine lex_init rfl rfl rfl (fun b w' hb hf hB => ⟨_, ?_, put8_repl hB (.int .i64 f.pt) (.int .i64 f.pl) (.int .i64 f.pb) (.int .i64 f.pr) (.int .i64 f.mt) (.int .i64 f.ml) (.int .i64 f.mb) (.int .i64 f.mr)⟩) ?_
    · obtain ⟨z0, z1, z2, z3, z4, z5, z6, z7, z8, z9, z10, z11, z12⟩ := fro13 hB
      obtain ⟨d0, d1, d2, d3, d4, d5, d6, d7⟩ := fra8 hB
      unfold put8
      go_simp
    try simp only [Act.put]
    refine lex_init rfl rfl rfl (fun b w' hb hf hB => ⟨_, ?_, put13_repl hB (.int .i64 r) (.int .i64 c) (.int .u8 K.rd) (.bool K.kp) (.bool wp) (.bool K.og) (.int .i64 K.a) (.int .i64 K.b) (.int .i64 K.c) (.int .i64 K.d) (.int .i64 K.l) (.int .i64 K.r) (.int .i64 K.s)⟩) ?_
    · obtain ⟨z0, z1, z2, z3, z4, z5, z6, z7, z8, z9, z10, z11, z12⟩ := fro13 hB
      obtain ⟨d0, d1, d2, d3, d4, d5, d6, d7, d8, d9, d10, d11, d12⟩ := cur13 hB
      unfold put13
      go_simp
    try simp only [Act.put]
    refine lex_nil fun w3 he => ?_
    obtain ⟨g1, hg1, hge1, hB1⟩ := he.facts 4
    obtain ⟨g2, hg2, hge2, hB2⟩ := he.facts 5
    have hne : g1 ≠ g2 := fun e => (show β 4 ≠ β 5 from he.ne 4 5 (by decide)) (by rw [hg1, hg2, e])
    have HK3 := Lib.hid (Bs.made2 HK2.out he.only hge1 hB1 hge2 hB2 hne)
    rw [hg1, hg2]
    clear hg1 hg2 he hβ hge1 hge2 hB1 hB2 HX HK2
    --#1
    obtain ⟨n0, n1, _⟩ := blk2 HK3.out.b2
    obtain ⟨a0, a1, a2, a3, a4, a5, a6, a7⟩ := fra8 HK3.out.b0
    obtain ⟨c0, c1, c2, c3, c4, c5, c6, c7, c8, c9, c10, c11, c12⟩ := cur13 HK3.out.b1
    go_wp2_with fail
    refine (HTo.out _).mono ?_
    rintro e w4 ⟨rfl, hb4⟩
    have HK4 := Lib.hid ((HK3.out.next hb4).alloc 44 #[.int .i64 x, .int .i64 y, .int .u8 K.rd, .bool K.kp, .bool false, .bool K.og, .int .i64 K.a, .int .i64 K.b, .int .i64 K.c, .int .i64 K.d, .int .i64 K.l, .int .i64 K.r, .int .i64 K.s])
    clear hb4 HK3 a0 a1 a2 a3 a4 a5 a6 a7 c0 c1 c2 c3 c4 c5 c6 c7 c8 c9 c10 c11 c12 n0 n1
    go_upto_region 7 with fail
    generalize w4.heap.size = g3 at *
    refine world_gen (fun V => Bs w [(g3, 44, #[.int .i64 x, .int .i64 y, .int .u8 K.rd, .bool K.kp, .bool false, .bool K.og, .int .i64 K.a, .int .i64 K.b, .int .i64 K.c, .int .i64 K.d, .int .i64 K.l, .int .i64 K.r, .int .i64 K.s]), (g1, 35, #[.int .i64 f.pt, .int .i64 f.pl, .int .i64 f.pb, .int .i64 f.pr, .int .i64 f.mt, .int .i64 f.ml, .int .i64 f.mb, .int .i64 f.mr]), (g2, 44, #[.int .i64 r, .int .i64 c, .int .u8 K.rd, .bool K.kp, .bool wp, .bool K.og, .int .i64 K.a, .int .i64 K.b, .int .i64 K.c, .int .i64 K.d, .int .i64 K.l, .int .i64 K.r, .int .i64 K.s]), (w.heap.size + 1 + 1, 41, sC n m), (w.heap.size + 1, 31, fC f), (w.heap.size, 27, uC r c wp K)] V) HK4.out ?_
    clear HK4
    intro V HV
    replace HV := Lib.hid HV
    have HX := Lib.hid (fun w' (h : Only [] V w') => And.intro (fra8 (h.blk HV.out.b1 (by simp))) (And.intro (cur13 (h.blk HV.out.b0 (by simp))) (And.intro (cur13 (h.blk HV.out.b2 (by simp))) (blk2 (h.blk HV.out.b3 (by simp))))))
    --#2
    refine wp_region_mix_lit (by kernel_rfl) [(6, .call (.agg #[.int .i64 x, .int .i64 y, .int .u8 K.rd, .bool K.kp, .bool false, .bool K.og, .int .i64 K.a, .int .i64 K.b, .int .i64 K.c, .int .i64 K.d, .int .i64 K.l, .int .i64 K.r, .int .i64 K.s])), (14, .call (.agg #[.int .i64 x, .int .i64 cq, .int .u8 K.rd, .bool K.kp, .bool false, .bool K.og, .int .i64 K.a, .int .i64 K.b, .int .i64 K.c, .int .i64 K.d, .int .i64 K.l, .int .i64 K.r, .int .i64 K.s])), (18, .call (.agg #[.int .i64 x, .int .i64 y, .int .u8 K.rd, .bool K.kp, .bool false, .bool K.og, .int .i64 K.a, .int .i64 K.b, .int .i64 K.c, .int .i64 K.d, .int .i64 K.l, .int .i64 K.r, .int .i64 K.s])), (27, .call (.agg #[.int .i64 rq, .int .i64 y, .int .u8 K.rd, .bool K.kp, .bool false, .bool K.og, .int .i64 K.a, .int .i64 K.b, .int .i64 K.c, .int .i64 K.d, .int .i64 K.l, .int .i64 K.r, .int .i64 K.s])), (31, .call (.agg #[.int .i64 x, .int .i64 y, .int .u8 K.rd, .bool K.kp, .bool false, .bool K.og, .int .i64 K.a, .int .i64 K.b, .int .i64 K.c, .int .i64 K.d, .int .i64 K.l, .int .i64 K.r, .int .i64 K.s]))] (by kernel_rfl) (by kernel_rfl) (by kernel_rfl) (by rfl) (by simp [apartK] <;> omega) (by simp [startK]) (by simp [stabK]) (⟨fun _ => undef, by simp [okK]⟩) (fun β hβ => ?_)
    repeat (
      refine lex_val (v := ?_) rfl rfl (fun w' hf => ?_) ?_
      rotate_left
      · obtain ⟨⟨a0, a1, a2, a3, a4, a5, a6, a7⟩, ⟨c0, c1, c2, c3, c4, c5, c6, c7, c8, c9, c10, c11, c12⟩, ⟨d0, d1, d2, d3, d4, d5, d6, d7, d8, d9, d10, d11, d12⟩, n0, n1, _⟩ := HX.out w' hf.only; go_simp
        try rfl
      try simp only [Act.put, List.setIfInBounds_toArray, List.set_cons_zero, List.set_cons_succ])
    refine lex_call (f := 32) (args := ?_) rfl rfl (fun w' hf => ?_) (fun w' hf => ?_) ?_
    rotate_left
    · go_simp
      try rfl
    · exact HT2.out w'
    try simp only [Act.put, List.setIfInBounds_toArray, List.set_cons_zero, List.set_cons_succ]
    repeat (
      refine lex_val (v := ?_) rfl rfl (fun w' hf => ?_) ?_
      rotate_left
      · obtain ⟨⟨a0, a1, a2, a3, a4, a5, a6, a7⟩, ⟨c0, c1, c2, c3, c4, c5, c6, c7, c8, c9, c10, c11, c12⟩, ⟨d0, d1, d2, d3, d4, d5, d6, d7, d8, d9, d10, d11, d12⟩, n0, n1, _⟩ := HX.out w' hf.only; have he := HE.out; have hg := HG.out; go_simp
        try rfl
      try simp only [Act.put, List.setIfInBounds_toArray, List.set_cons_zero, List.set_cons_succ])
    refine lex_call (f := 33) (args := ?_) rfl rfl (fun w' hf => ?_) (fun w' hf => ?_) ?_
    rotate_left
    · go_simp
      try rfl
    · exact HR.out w'
    try simp only [Act.put, List.setIfInBounds_toArray, List.set_cons_zero, List.set_cons_succ]
    repeat (
      refine lex_val (v := ?_) rfl rfl (fun w' hf => ?_) ?_
      rotate_left
      · obtain ⟨⟨a0, a1, a2, a3, a4, a5, a6, a7⟩, ⟨c0, c1, c2, c3, c4, c5, c6, c7, c8, c9, c10, c11, c12⟩, ⟨d0, d1, d2, d3, d4, d5, d6, d7, d8, d9, d10, d11, d12⟩, n0, n1, _⟩ := HX.out w' hf.only; go_simp
        try rfl
      try simp only [Act.put, List.setIfInBounds_toArray, List.set_cons_zero, List.set_cons_succ])
    refine lex_call (f := 34) (args := ?_) rfl rfl (fun w' hf => ?_) (fun w' hf => ?_) ?_
    rotate_left
    · go_simp
      try rfl
    · exact HRC.out w'
    try simp only [Act.put, List.setIfInBounds_toArray, List.set_cons_zero, List.set_cons_succ]
    repeat (
      refine lex_val (v := ?_) rfl rfl (fun w' hf => ?_) ?_
      rotate_left
      · obtain ⟨⟨a0, a1, a2, a3, a4, a5, a6, a7⟩, ⟨c0, c1, c2, c3, c4, c5, c6, c7, c8, c9, c10, c11, c12⟩, ⟨d0, d1, d2, d3, d4, d5, d6, d7, d8, d9, d10, d11, d12⟩, n0, n1, _⟩ := HX.out w' hf.only; have he := HE.out; have hg := HG.out; go_simp
        try rfl
      try simp only [Act.put, List.setIfInBounds_toArray, List.set_cons_zero, List.set_cons_succ])
    refine lex_call (f := 34) (args := ?_) rfl rfl (fun w' hf => ?_) (fun w' hf => ?_) ?_
    rotate_left
    · go_simp
      try rfl
    · exact HC.out w'
    try simp only [Act.put, List.setIfInBounds_toArray, List.set_cons_zero, List.set_cons_succ]
    repeat (
      refine lex_val (v := ?_) rfl rfl (fun w' hf => ?_) ?_
      rotate_left
      · obtain ⟨⟨a0, a1, a2, a3, a4, a5, a6, a7⟩, ⟨c0, c1, c2, c3, c4, c5, c6, c7, c8, c9, c10, c11, c12⟩, ⟨d0, d1, d2, d3, d4, d5, d6, d7, d8, d9, d10, d11, d12⟩, n0, n1, _⟩ := HX.out w' hf.only; go_simp
        try rfl
      try simp only [Act.put, List.setIfInBounds_toArray, List.set_cons_zero, List.set_cons_succ])
    refine lex_call (f := 33) (args := ?_) rfl rfl (fun w' hf => ?_) (fun w' hf => ?_) ?_
    rotate_left
    · go_simp
      try rfl
    · exact HCR.out w'
    try simp only [Act.put, List.setIfInBounds_toArray, List.set_cons_zero, List.set_cons_succ]
    repeat (
      refine lex_val (v := ?_) rfl rfl (fun w' hf => ?_) ?_
      rotate_left
      · obtain ⟨⟨a0, a1, a2, a3, a4, a5, a6, a7⟩, ⟨c0, c1, c2, c3, c4, c5, c6, c7, c8, c9, c10, c11, c12⟩, ⟨d0, d1, d2, d3, d4, d5, d6, d7, d8, d9, d10, d11, d12⟩, n0, n1, _⟩ := HX.out w' hf.only; have he := HE.out; have hg := HG.out; go_simp
        try rfl
      try simp only [Act.put, List.setIfInBounds_toArray, List.set_cons_zero, List.set_cons_succ])
    refine lex_nil fun w5 he => ?_
    have HK5 := Lib.hid (HV.out.next he.only.below0)
    clear he HX HV hβ HT2 HR HRC HC HCR HTo
    --#3
    obtain ⟨a0, a1, a2, a3, a4, a5, a6, a7⟩ := fra8 HK5.out.b1
    obtain ⟨c0, c1, c2, c3, c4, c5, c6, c7, c8, c9, c10, c11, c12⟩ := cur13 HK5.out.tl.tl.tl.b2
    go_wp2_with fail
    refine (HAr.out _).mono ?_
    rintro e w6 ⟨rfl, hb6⟩
    have HK6 := Lib.hid ((HK5.out.next hb6).alloc 29 #[.int .i64 t, .int .i64 l, .int .i64 b, .int .i64 rr])
    clear hb6 HK5 a0 a1 a2 a3 a4 a5 a6 a7 c0 c1 c2 c3 c4 c5 c6 c7 c8 c9 c10 c11 c12
    go_upto_region 10 with fail
    generalize w6.heap.size = g4 at *
    refine world_gen (fun V => Bs w [(g4, 29, #[.int .i64 t, .int .i64 l, .int .i64 b, .int .i64 rr]), (g3, 44, #[.int .i64 x, .int .i64 y, .int .u8 K.rd, .bool K.kp, .bool false, .bool K.og, .int .i64 K.a, .int .i64 K.b, .int .i64 K.c, .int .i64 K.d, .int .i64 K.l, .int .i64 K.r, .int .i64 K.s]), (g1, 35, #[.int .i64 f.pt, .int .i64 f.pl, .int .i64 f.pb, .int .i64 f.pr, .int .i64 f.mt, .int .i64 f.ml, .int .i64 f.mb, .int .i64 f.mr]), (g2, 44, #[.int .i64 r, .int .i64 c, .int .u8 K.rd, .bool K.kp, .bool wp, .bool K.og, .int .i64 K.a, .int .i64 K.b, .int .i64 K.c, .int .i64 K.d, .int .i64 K.l, .int .i64 K.r, .int .i64 K.s]), (w.heap.size + 1 + 1, 41, sC n m), (w.heap.size + 1, 31, fC f), (w.heap.size, 27, uC r c wp K)] V) HK6.out ?_
    clear HK6
    intro V HV
    replace HV := Lib.hid HV
    have HX := Lib.hid (fun w' (h : Only [] V w') => And.intro (blk4 (h.blk HV.out.b0 (by simp))) (And.intro (cur13 (h.blk HV.out.b1 (by simp))) (And.intro (cur13 (h.blk HV.out.b3 (by simp))) (blk2 (h.blk HV.out.b4 (by simp))))))
    have hf0 := fld_posR
    --#4
    refine wp_region_mix_lit (by kernel_rfl) [(14, .call (.agg #[.int .i64 x, .int .i64 lq]))] (by kernel_rfl) (by kernel_rfl) (by kernel_rfl) (by rfl) (by simp [apartK] <;> omega) (by simp [startK]) (by simp [stabK]) (⟨fun _ => undef, by simp [okK]⟩) (fun β hβ => ?_)
    repeat (
      refine lex_val (v := ?_) rfl rfl (fun w' hf => ?_) ?_
      rotate_left
      · obtain ⟨⟨b0, b1, b2, b3, _⟩, ⟨c0, c1, c2, c3, c4, c5, c6, c7, c8, c9, c10, c11, c12⟩, ⟨d0, d1, d2, d3, d4, d5, d6, d7, d8, d9, d10, d11, d12⟩, n0, n1, _⟩ := HX.out w' hf.only; have hwr := HWr.out; go_simp
        try rfl
      try simp only [Act.put, List.setIfInBounds_toArray, List.set_cons_zero, List.set_cons_succ])
    refine lex_call (f := 35) (args := ?_) rfl rfl (fun w' hf => ?_) (fun w' hf => ?_) ?_
    rotate_left
    · go_simp
      try rfl
    · exact HCl.out w'
    try simp only [Act.put, List.setIfInBounds_toArray, List.set_cons_zero, List.set_cons_succ]
    repeat (
      refine lex_val (v := ?_) rfl rfl (fun w' hf => ?_) ?_
      rotate_left
      · obtain ⟨⟨b0, b1, b2, b3, _⟩, ⟨c0, c1, c2, c3, c4, c5, c6, c7, c8, c9, c10, c11, c12⟩, ⟨d0, d1, d2, d3, d4, d5, d6, d7, d8, d9, d10, d11, d12⟩, n0, n1, _⟩ := HX.out w' hf.only; have hi := HI.out; have hgi := HGI.out; go_simp
        try rfl
      try simp only [Act.put, List.setIfInBounds_toArray, List.set_cons_zero, List.set_cons_succ])
    refine lex_nil fun w7 he => ?_
    have HK7 := Lib.hid (HV.out.next he.only.below0)
    clear he
    go_wp2_with fail
    all_goals
      go_ret
      exact ⟨rfl, HK7.out.bel⟩

set_option maxRecDepth 100000 in
/-- What the walk gives, for every argument and every world that holds the table. -/
theorem contract (H : Type) (enc : TypeId × Value → H) (W : World) (base : Nat) (args : Array Value) (ds gs : List (DataW H)) (before : List MemPlace)
    (hval : ∀ (j : Nat) t v, Try.f7.params[j]? = some t → args[j]? = some v → Value.okWide Try.prog W .any base t v)
    (hW : DataW.Whole enc Try.prog Try.f7.params.toList Rows.cursGoesSpec.vars false W args.toList ds gs before) (_hL : laidMetH Try.prog Rows.cursGoesRow.laid W)
    (hreach : (DataW.weightsEach Try.prog (Try.f7.params.toList ++ []) (ds ++ gs)).all (· ≤ reachBytes) = true) :
    Calls Try.prog 7 args W fun e W' => ∃ v, e = .returned v ∧ Rows.cursGoesSpec.post enc Try.prog Try.f7 false true false false W args v W' := by
  have hW' := hW
  clear _hL
  have hlts : ∀ x ∈ before, x.block < W.heap.size := fun x hx => hW'.lt x hx
  obtain ⟨p, q, hA0, hV, rfl, hfz, hnd⟩ := hW
  have hA : DataW.TrodAll enc Try.prog W 0 (fun _ => true) true Try.f7.params.toList args.toList ds p := hA0
  rw [Try.params7] at hA hval hreach
  obtain ⟨v0, vs0, d0, ds0, pp0, qq0, hargs, rfl, rfl, h0, rr0⟩ := trodAll_cons hA
  obtain ⟨v1, vs1, d1, ds1, pp1, qq1, rfl, rfl, rfl, h1, rr1⟩ := trodAll_cons rr0
  obtain ⟨v2, vs2, d2, ds2, pp2, qq2, rfl, rfl, rfl, h2, rr2⟩ := trodAll_cons rr1
  obtain ⟨rfl, rfl, rfl⟩ := trodAll_nil rr2
  obtain rfl : args = #[v0, v1, v2] := by cases args; simp_all
  obtain ⟨rfl, rfl⟩ := trodVars_none hV
  obtain ⟨r0, c0, wp0, K0, rfl⟩ := curs_in (hval 0 27 v0 rfl rfl) h0
  obtain ⟨f1, rfl⟩ := fram_in (hval 1 31 v1 rfl rfl) h1
  obtain ⟨p2, q2, rfl⟩ := pos_inU (hval 2 41 v2 rfl rfl) h2
  clear hA0
  refine (walk r0 c0 wp0 K0 f1 p2 q2 W).mono fun e W' ⟨he, hb⟩ => ?_
  subst he
  exact ⟨_, rfl, post_law laidOut (by kernel_rfl) (by kernel_rfl) rfl hW' rfl hb⟩

set_option maxRecDepth 100000 in
theorem laid_met (os : Os) : laidMet Try.prog Rows.cursGoesRow.laid ((laidWorld os).forCall (fun _ _ => 0) ⟨#[], #[Value.agg #[.int .i64 0, .int .i64 0, .int .u8 0, .bool false, .bool false, .bool false, .int .i64 0, .int .i64 0, .int .i64 0, .int .i64 0, .int .i64 0, .int .i64 0, .int .i64 0], Value.agg #[.int .i64 0, .int .i64 0, .int .i64 0, .int .i64 0, .int .i64 0, .int .i64 0, .int .i64 0, .int .i64 0], Value.agg #[.int .i64 0, .int .i64 0]], []⟩).memory :=
  laidMet_of_run' 8 (by kernel_rfl) (by kernel_rfl)
set_option maxRecDepth 100000 in
theorem reads (os : Os) {H : Type} (enc : TypeId × Value → H) : ∃ places, DataW.whole enc Try.prog ((laidWorld os).forCall (fun _ _ => 0) ⟨#[], #[Value.agg #[.int .i64 0, .int .i64 0, .int .u8 0, .bool false, .bool false, .bool false, .int .i64 0, .int .i64 0, .int .i64 0, .int .i64 0, .int .i64 0, .int .i64 0, .int .i64 0], Value.agg #[.int .i64 0, .int .i64 0, .int .i64 0, .int .i64 0, .int .i64 0, .int .i64 0, .int .i64 0, .int .i64 0], Value.agg #[.int .i64 0, .int .i64 0]], []⟩).memory Try.f7.params.toList Rows.cursGoesSpec.vars false (#[Value.agg #[.int .i64 0, .int .i64 0, .int .u8 0, .bool false, .bool false, .bool false, .int .i64 0, .int .i64 0, .int .i64 0, .int .i64 0, .int .i64 0, .int .i64 0, .int .i64 0], Value.agg #[.int .i64 0, .int .i64 0, .int .i64 0, .int .i64 0, .int .i64 0, .int .i64 0, .int .i64 0, .int .i64 0], Value.agg #[.int .i64 0, .int .i64 0]] : Array Value).toList 8 = some ([.agg [.lit (.int .i64 0), .lit (.int .i64 0), .lit (.int .u8 0), .lit (.bool false), .lit (.bool false), .lit (.bool false), .agg [.agg [.lit (.int .i64 0), .lit (.int .i64 0), .lit (.int .i64 0), .lit (.int .i64 0)], .lit (.int .i64 0), .lit (.int .i64 0), .lit (.int .i64 0)]], .agg [.agg [.lit (.int .i64 0), .lit (.int .i64 0), .lit (.int .i64 0), .lit (.int .i64 0)], .agg [.lit (.int .i64 0), .lit (.int .i64 0), .lit (.int .i64 0), .lit (.int .i64 0)]], .agg [.lit (.int .i64 0), .lit (.int .i64 0)]], [], places) :=
  ⟨[], by kernel_rfl⟩

set_option maxRecDepth 100000 in
theorem lifted (os : Os) (started : os.Started) (H : Type) (enc : TypeId × Value → H) (F : Stop.Interp) :
    ReturnsInHanded {} Try.checked os 7 .any ((OpenSpec.ofChange Rows.cursGoesSpec).preRow enc Try.prog Try.f7 Rows.cursGoesRow.domain false Rows.cursGoesRow.laid) (((OpenSpec.ofChange Rows.cursGoesSpec).at F).post enc Try.prog Try.f7 false true false false) := by
  obtain ⟨places, hx⟩ := reads os enc
  refine returnsInHanded_of_row (C := Try.checked) (s := OpenSpec.ofChange Rows.cursGoesSpec) own started (by kernel_rfl) Try.func7
    (witness_row_at (enc := enc) (C := Try.checked) false (laidWorld os) #[Value.agg #[.int .i64 0, .int .i64 0, .int .u8 0, .bool false, .bool false, .bool false, .int .i64 0, .int .i64 0, .int .i64 0, .int .i64 0, .int .i64 0, .int .i64 0, .int .i64 0], Value.agg #[.int .i64 0, .int .i64 0, .int .i64 0, .int .i64 0, .int .i64 0, .int .i64 0, .int .i64 0, .int .i64 0], Value.agg #[.int .i64 0, .int .i64 0]] rfl (by kernel_rfl) (by kernel_rfl) (by kernel_rfl)
      (OpenSpec.preRow_of_cond 8 hx (by kernel_rfl) (fun k hk => by cases hk) (by kernel_rfl) (laid_met os))) ?_
  intro W base args ds gs before hval hW _ _ hreach hL _ _
  exact contract H enc W base args ds gs before hval hW hL hreach

theorem said : Rows.CursGoesSaid :=
  OpenClaim.holds_of_cond 7 Try.f7 rfl rfl rfl rfl rfl rfl rfl ⟨rfl, rfl, rfl, rfl, rfl⟩ rfl rfl rfl rfl rfl (by kernel_rfl) Try.func7 (by kernel_rfl)
    (of_decide_eq_true (by kernel_rfl)) (by unfold Func.isWrapper; first | (rw [if_pos (by decide +kernel)]; kernel_rfl) | (rw [if_neg (by decide +kernel)]; exact ⟨rfl, rfl⟩))
    (fun os started H enc _ F => by rw [OpenClaim.pre_eq_preRow]; exact lifted os started H enc F)

#print axioms said
end Go.Proofs.Ytilfhilebdkmkaa.cursGoes

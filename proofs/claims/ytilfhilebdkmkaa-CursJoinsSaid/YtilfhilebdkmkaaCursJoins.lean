/-
  CursJoins holds, whatever the input.
-/
import Derived.Test.YtilfhilebdkmkaaFrame0
import Derived.Test.YtilfhilebdkmkaaCurM
import Derived.Test.YtilfhilebdkmkaaCurP
import Derived.Test.YtilfhilebdkmkaaCurO
import Derived.Test.YtilfhilebdkmkaaFrameZ
namespace Go.Proofs.Ytilfhilebdkmkaa.cursJoins
open Go.ChangeShapes Go.WideShapes Go.ChangeAt Go.RowKit
open Go.ChangeMaps (open_string)

set_option maxRecDepth 100000 in
set_option maxHeartbeats 32000000 in
theorem walk (r c : Int) (wp : Bool) (K : CK) (f : Fr) (n m : Int) (w : World) :
    Calls Try.prog 6 #[uV r c wp K, fV f, .agg #[.int .i64 n, .int .i64 m]] w fun e w' => e = .returned (.bool true) ∧ Below w.heap.size w w' := by
  have HAw := Lib.hid (fun V => awakeC_any V)
  have HSm := Lib.hid (fun V => smallF_any f V)
  have HK := Lib.hid (show Bs w [(w.heap.size + 1 + 1, 61, #[.int .i64 n, .int .i64 m]), (w.heap.size + 1, 31, fC f), (w.heap.size, 27, uC r c wp K)] _ from Bs.start3 w 27 31 61 (uC r c wp K) (fC f) #[.int .i64 n, .int .i64 m])
  have hsm0 : smF f = true → ∃ H W it il ib ir, FrOk f H W it il ib ir := fun h => fr_ok f (by unfold smF at h; simp at h; omega) (by unfold smF at h; simp at h; omega)
  have HS0 := Lib.hid hsm0
  clear hsm0
  generalize smF f = sm at *
  unfold uV fV at *
  go_enter Try.func6, Try.ntmps6
  go_upto_region 1 with fail
  refine world_gen (fun V => Bs w [(w.heap.size + 1 + 1, 61, #[.int .i64 n, .int .i64 m]), (w.heap.size + 1, 31, fC f), (w.heap.size, 27, uC r c wp K)] V) HK.out ?_
  clear HK
  intro V HV
  replace HV := Lib.hid HV
  have HX := Lib.hid (fun w' (h : Only [] V w') => blk2 (h.blk HV.out.b0 (by simp)))
  refine wp_region_mix_lit (by kernel_rfl) [] (by kernel_rfl) (by kernel_rfl) (by kernel_rfl) (by rfl) (by simp [apartK] <;> omega) (by simp [startK]) (by simp [stabK]) (⟨fun _ => undef, by simp [okK]⟩) (fun β hβ => ?_)
  repeat (
    refine lex_val (v := ?_) rfl rfl (fun w' hf => ?_) ?_
    rotate_left
    · obtain ⟨n0, n1, _⟩ := HX.out w' hf.only; go_simp
      try rfl
    try simp only [Act.put, List.setIfInBounds_toArray, List.set_cons_zero, List.set_cons_succ])
  refine lex_nil fun w0 he => ?_
  have HK := Lib.hid (HV.out.next he.only.below0)
  clear he HX HV hβ
  --#1
  go_wp2_with fail
  refine (HAw.out _).mono ?_
  rintro e w1 ⟨rfl, hb1⟩
  have HK1 := Lib.hid (HK.out.next hb1)
  clear hb1 HK
  obtain ⟨a0, a1, a2, a3, a4, a5, a6, a7⟩ := fra8 HK1.out.b1
  go_wp2_with fail
  refine (HSm.out _).mono ?_
  rintro e w2 ⟨rfl, hb2⟩
  have HK2 := Lib.hid (HK1.out.next hb2)
  clear hb2 HK1 a0 a1 a2 a3 a4 a5 a6 a7
  rcases sm with _ | _
  case false =>
    go_wp2_with fail
    go_ret
    exact ⟨rfl, HK2.out.bel⟩
  obtain ⟨H, W, it, il, ib, ir, h⟩ := HS0.out (by simp)
  have HIn := Lib.hid (fun V => refInside_any h r c wp K V)
  have HH := Lib.hid h
  have HI0 := Lib.hid (ins_of (H := H) (W := W) (it := it) (il := il) (ib := ib) (ir := ir) (r := r) (c := c))
  clear h
  generalize insB H W it il ib ir r c = ins at *
  unfold uV fV at *
  obtain ⟨a0, a1, a2, a3, a4, a5, a6, a7⟩ := fra8 HK2.out.b1
  obtain ⟨c0, c1, c2, c3, c4, c5, c6, c7, c8, c9, c10, c11, c12⟩ := cur13 HK2.out.b2
  go_wp2_with fail
  refine (HIn.out _).mono ?_
  rintro e w3 ⟨rfl, hb3⟩
  have HK3 := Lib.hid (HK2.out.next hb3)
  clear hb3 HK2 HIn a0 a1 a2 a3 a4 a5 a6 a7 c0 c1 c2 c3 c4 c5 c6 c7 c8 c9 c10 c11 c12
  rcases ins with _ | _
  case false =>
    go_wp2_with fail
    go_ret
    exact ⟨rfl, HK3.out.bel⟩
  rcases h1 : decide (n < 0) with _ | _
  case true =>
    go_wp2_with fail
    go_ret
    exact ⟨rfl, HK3.out.bel⟩
  rcases h2 : decide (m < 0) with _ | _
  case true =>
    go_wp2_with fail
    go_ret
    exact ⟨rfl, HK3.out.bel⟩
  rcases h3 : decide (1000000 < n) with _ | _
  case true =>
    go_wp2_with fail
    go_ret
    exact ⟨rfl, HK3.out.bel⟩
  rcases h4 : decide (1000000 < m) with _ | _
  case true =>
    go_wp2_with fail
    go_ret
    exact ⟨rfl, HK3.out.bel⟩
  --#2
  go_upto_region 6 with fail
  have h := HH.out
  have hp := HI0.out (by simp)
  have hn : 0 ≤ n ∧ n ≤ 1000000 := by simp at h1 h3; omega
  have hm : 0 ≤ m ∧ m ≤ 1000000 := by simp at h2 h4; omega
  have s1 : IntKind.i64.wrap (n + m) = n + m := IntWalk.i64_in _ (by omega)
  clear h1 h2 h3 h4
  have g1 := h.hi; have g2 := h.hj; have g3 := h.hH; have g4 := h.hW
  have HFr := Lib.hid (fun V => lFrame_any f V)
  have HO := Lib.hid (fun V => cOwn_any r c wp K V)
  have tq := clip_twice c W g4.1
  have tp := clip_twice r H g3.1
  have eu := up_twice (clipP r 0 (H - 1)) n m it H (by omega) g1.1 hn.1 hm.1
  have ed := down_twice (clipP r 0 (H - 1)) n m ib H (by omega) g1.2.2 hn.1 hm.1
  have el := up_twice (clipP c 0 (W - 1)) n m il W (by omega) g2.1 hn.1 hm.1
  have er := down_twice (clipP c 0 (W - 1)) n m ir W (by omega) g2.2.2 hn.1 hm.1
  have et := ret_twice K.og (clipP c 0 (W - 1)) il W hp.2.1 (by omega)
  have HU1 := Lib.hid (fun V => up_any h r c wp K n V)
  have HU2 := Lib.hid (fun V => up_any h (fewP (clipP r 0 (H - 1)) n 0 it) (clipP c 0 (W - 1)) false K m V)
  have HU3 := Lib.hid (fun V => up_any h r c wp K (n + m) V)
  have HD1 := Lib.hid (fun V => down_any h r c wp K n V)
  have HD2 := Lib.hid (fun V => down_any h (moreP (clipP r 0 (H - 1)) n (H - 1) (ib - 1)) (clipP c 0 (W - 1)) false K m V)
  have HD3 := Lib.hid (fun V => down_any h r c wp K (n + m) V)
  have HL1 := Lib.hid (fun V => left_any h r c wp K n V)
  have HL2 := Lib.hid (fun V => left_any h (clipP r 0 (H - 1)) (fewP (clipP c 0 (W - 1)) n 0 il) false K m V)
  have HL3 := Lib.hid (fun V => left_any h r c wp K (n + m) V)
  have HR1 := Lib.hid (fun V => right_any h r c wp K n V)
  have HR2 := Lib.hid (fun V => right_any h (clipP r 0 (H - 1)) (moreP (clipP c 0 (W - 1)) n (W - 1) (ir - 1)) false K m V)
  have HR3 := Lib.hid (fun V => right_any h r c wp K (n + m) V)
  have HT1 := Lib.hid (fun V => return_any h r c wp K V)
  have HT2 := Lib.hid (fun V => return_any h (clipP r 0 (H - 1)) il false K V)
  rw [eu, tq] at HU2
  rw [ed, tq] at HD2
  rw [el, tp] at HL2
  rw [er, tp] at HR2
  rw [et.1] at HT1
  rw [et.2, tp] at HT2
  clear eu ed el er et tq tp hp hn hm g1 g2 g3 g4 h HH HI0
  generalize clipP r 0 (H - 1) = p at *
  generalize clipP c 0 (W - 1) = q at *
  generalize fewP p n 0 it = u1 at *
  generalize fewP p (n + m) 0 it = u2 at *
  generalize moreP p n (H - 1) (ib - 1) = d1 at *
  generalize moreP p (n + m) (H - 1) (ib - 1) = d2 at *
  generalize fewP q n 0 il = l1 at *
  generalize fewP q (n + m) 0 il = l2 at *
  generalize moreP q n (W - 1) (ir - 1) = r1 at *
  generalize moreP q (n + m) (W - 1) (ir - 1) = r2 at *
  have HE := Lib.hid (fun W a b => eql_curU W a b K.rd K.kp false K.og K.a K.b K.c K.d K.l K.r K.s)
  have HG := Lib.hid guard_curU
  unfold uV fV at *
  have HX := Lib.hid (fun w' (h : Only [] w3 w') => And.intro (fra8 (h.blk HK3.out.b1 (by simp))) (cur13 (h.blk HK3.out.b2 (by simp))))
  --#3
  refine wp_region_mix_lit (by kernel_rfl) [(1, .call (.agg #[.int .i64 f.pt, .int .i64 f.pl, .int .i64 f.pb, .int .i64 f.pr, .int .i64 f.mt, .int .i64 f.ml, .int .i64 f.mb, .int .i64 f.mr])), (3, .call (.agg #[.int .i64 r, .int .i64 c, .int .u8 K.rd, .bool K.kp, .bool wp, .bool K.og, .int .i64 K.a, .int .i64 K.b, .int .i64 K.c, .int .i64 K.d, .int .i64 K.l, .int .i64 K.r, .int .i64 K.s])), (4, .alloc 6 35 #[.int .i64 0, .int .i64 0, .int .i64 0, .int .i64 0, .int .i64 0, .int .i64 0, .int .i64 0, .int .i64 0] (fun _ => #[.int .i64 f.pt, .int .i64 f.pl, .int .i64 f.pb, .int .i64 f.pr, .int .i64 f.mt, .int .i64 f.ml, .int .i64 f.mb, .int .i64 f.mr])), (5, .alloc 7 44 zU (fun _ => #[.int .i64 r, .int .i64 c, .int .u8 K.rd, .bool K.kp, .bool wp, .bool K.og, .int .i64 K.a, .int .i64 K.b, .int .i64 K.c, .int .i64 K.d, .int .i64 K.l, .int .i64 K.r, .int .i64 K.s])), (6, .init 4), (7, .init 5)] (by kernel_rfl) (by kernel_rfl) (by kernel_rfl) (by rfl) (by simp [apartK] <;> omega) (by simp [startK]) (by simp [stabK]) (⟨fun _ => .pointer (some ⟨w3.heap.size, 0, none⟩), by simp [okK]⟩) (fun β hβ => ?_)
  repeat (
    refine lex_val (v := ?_) rfl rfl (fun w' hf => ?_) ?_
    rotate_left
    · obtain ⟨⟨a0, a1, a2, a3, a4, a5, a6, a7⟩, c0, c1, c2, c3, c4, c5, c6, c7, c8, c9, c10, c11, c12⟩ := HX.out w' hf.only; go_simp
      try rfl
    try simp only [Act.put, List.setIfInBounds_toArray, List.set_cons_zero, List.set_cons_succ])
  refine lex_call (f := 10) (args := ?_) rfl rfl (fun w' hf => ?_) (fun w' hf => ?_) ?_
  rotate_left
  · go_simp
    try rfl
  · exact HFr.out w'
  try simp only [Act.put, List.setIfInBounds_toArray, List.set_cons_zero, List.set_cons_succ]
  repeat (
    refine lex_val (v := ?_) rfl rfl (fun w' hf => ?_) ?_
    rotate_left
    · obtain ⟨⟨a0, a1, a2, a3, a4, a5, a6, a7⟩, c0, c1, c2, c3, c4, c5, c6, c7, c8, c9, c10, c11, c12⟩ := HX.out w' hf.only; go_simp
      try rfl
    try simp only [Act.put, List.setIfInBounds_toArray, List.set_cons_zero, List.set_cons_succ])
  refine lex_call (f := 16) (args := ?_) rfl rfl (fun w' hf => ?_) (fun w' hf => ?_) ?_
  rotate_left
  · go_simp
    try rfl
  · exact HO.out w'
  try simp only [Act.put, List.setIfInBounds_toArray, List.set_cons_zero, List.set_cons_succ]
  refine lex_alloc rfl rfl (fun w' => ?_) ?_
  · go_simp
  try simp only [Act.put, List.setIfInBounds_toArray, List.set_cons_zero, List.set_cons_succ]
  refine lex_alloc rfl rfl (fun w' => ?_) ?_
  · go_simp
  try simp only [Act.put, List.setIfInBounds_toArray, List.set_cons_zero, List.set_cons_succ]
  refine lex_init rfl rfl rfl (fun b w' hb hf hB => ⟨_, ?_, put8_repl hB (.int .i64 f.pt) (.int .i64 f.pl) (.int .i64 f.pb) (.int .i64 f.pr) (.int .i64 f.mt) (.int .i64 f.ml) (.int .i64 f.mb) (.int .i64 f.mr)⟩) ?_
  · obtain ⟨z0, z1, z2, z3, z4, z5, z6, z7, z8, z9, z10, z11, z12⟩ := fro13 hB
    obtain ⟨d0, d1, d2, d3, d4, d5, d6, d7⟩ := fra8 hB
    unfold put8
    go_simp
  try simp only [Act.put]
  refine lex_init rfl rfl rfl (fun b w' hb hf hB => ⟨_, ?_, put13_repl hB (.int .i64 r) (.int .i64 c) (.int .u8 K.rd) (.bool K.kp) (.bool wp) (.bool K.og) (.int .i64 K.a) (.int .i64 K.b) (.int .i64 K.c) (.int .i64 K.d) (.int .i64 K.l) (.int .i64 K.r) (.int .i64 K.s)⟩) ?_
  · obtain ⟨z0, z1, z2, z3, z4, z5, z6, z7, z8, z9, z10, z11, z12⟩ := fro13 hB
    obtain ⟨d0, d1, d2, d3, d4, d5, d6, d7, d8, d9, d10, d11, d12⟩ := cur13 hB
    unfold put13
    go_simp
  try simp only [Act.put]
  refine lex_nil fun w4 he => ?_
  obtain ⟨b1, hg1, hge1, hB1⟩ := he.facts 4
  obtain ⟨b2, hg2, hge2, hB2⟩ := he.facts 5
  have hne : b1 ≠ b2 := fun e => (show β 4 ≠ β 5 from he.ne 4 5 (by decide)) (by rw [hg1, hg2, e])
  have HK4 := Lib.hid (Bs.made2 HK3.out he.only hge1 hB1 hge2 hB2 hne)
  rw [hg1, hg2]
  clear hg1 hg2 he hβ hge1 hge2 hB1 hB2 HX HK3 HFr HO
  have HX := Lib.hid (fun w' (h : Only [] w4 w') => And.intro (fra8 (h.blk HK4.out.b0 (by simp))) (cur13 (h.blk HK4.out.b1 (by simp))))
  go_upto_region 7 with fail
  --#4
  refine wp_region_mix_lit (by kernel_rfl) [(3, .call (.agg #[.int .i64 u1, .int .i64 q, .int .u8 K.rd, .bool K.kp, .bool false, .bool K.og, .int .i64 K.a, .int .i64 K.b, .int .i64 K.c, .int .i64 K.d, .int .i64 K.l, .int .i64 K.r, .int .i64 K.s])), (6, .call (.agg #[.int .i64 u2, .int .i64 q, .int .u8 K.rd, .bool K.kp, .bool false, .bool K.og, .int .i64 K.a, .int .i64 K.b, .int .i64 K.c, .int .i64 K.d, .int .i64 K.l, .int .i64 K.r, .int .i64 K.s])), (12, .call (.agg #[.int .i64 u2, .int .i64 q, .int .u8 K.rd, .bool K.kp, .bool false, .bool K.og, .int .i64 K.a, .int .i64 K.b, .int .i64 K.c, .int .i64 K.d, .int .i64 K.l, .int .i64 K.r, .int .i64 K.s])), (18, .call (.agg #[.int .i64 d1, .int .i64 q, .int .u8 K.rd, .bool K.kp, .bool false, .bool K.og, .int .i64 K.a, .int .i64 K.b, .int .i64 K.c, .int .i64 K.d, .int .i64 K.l, .int .i64 K.r, .int .i64 K.s])), (21, .call (.agg #[.int .i64 d2, .int .i64 q, .int .u8 K.rd, .bool K.kp, .bool false, .bool K.og, .int .i64 K.a, .int .i64 K.b, .int .i64 K.c, .int .i64 K.d, .int .i64 K.l, .int .i64 K.r, .int .i64 K.s])), (27, .call (.agg #[.int .i64 d2, .int .i64 q, .int .u8 K.rd, .bool K.kp, .bool false, .bool K.og, .int .i64 K.a, .int .i64 K.b, .int .i64 K.c, .int .i64 K.d, .int .i64 K.l, .int .i64 K.r, .int .i64 K.s])), (34, .call (.agg #[.int .i64 p, .int .i64 l1, .int .u8 K.rd, .bool K.kp, .bool false, .bool K.og, .int .i64 K.a, .int .i64 K.b, .int .i64 K.c, .int .i64 K.d, .int .i64 K.l, .int .i64 K.r, .int .i64 K.s])), (37, .call (.agg #[.int .i64 p, .int .i64 l2, .int .u8 K.rd, .bool K.kp, .bool false, .bool K.og, .int .i64 K.a, .int .i64 K.b, .int .i64 K.c, .int .i64 K.d, .int .i64 K.l, .int .i64 K.r, .int .i64 K.s])), (43, .call (.agg #[.int .i64 p, .int .i64 l2, .int .u8 K.rd, .bool K.kp, .bool false, .bool K.og, .int .i64 K.a, .int .i64 K.b, .int .i64 K.c, .int .i64 K.d, .int .i64 K.l, .int .i64 K.r, .int .i64 K.s])), (50, .call (.agg #[.int .i64 p, .int .i64 r1, .int .u8 K.rd, .bool K.kp, .bool false, .bool K.og, .int .i64 K.a, .int .i64 K.b, .int .i64 K.c, .int .i64 K.d, .int .i64 K.l, .int .i64 K.r, .int .i64 K.s])), (53, .call (.agg #[.int .i64 p, .int .i64 r2, .int .u8 K.rd, .bool K.kp, .bool false, .bool K.og, .int .i64 K.a, .int .i64 K.b, .int .i64 K.c, .int .i64 K.d, .int .i64 K.l, .int .i64 K.r, .int .i64 K.s])), (59, .call (.agg #[.int .i64 p, .int .i64 r2, .int .u8 K.rd, .bool K.kp, .bool false, .bool K.og, .int .i64 K.a, .int .i64 K.b, .int .i64 K.c, .int .i64 K.d, .int .i64 K.l, .int .i64 K.r, .int .i64 K.s])), (65, .call (.agg #[.int .i64 p, .int .i64 il, .int .u8 K.rd, .bool K.kp, .bool false, .bool K.og, .int .i64 K.a, .int .i64 K.b, .int .i64 K.c, .int .i64 K.d, .int .i64 K.l, .int .i64 K.r, .int .i64 K.s])), (67, .call (.agg #[.int .i64 p, .int .i64 il, .int .u8 K.rd, .bool K.kp, .bool false, .bool K.og, .int .i64 K.a, .int .i64 K.b, .int .i64 K.c, .int .i64 K.d, .int .i64 K.l, .int .i64 K.r, .int .i64 K.s])), (70, .call (.agg #[.int .i64 p, .int .i64 il, .int .u8 K.rd, .bool K.kp, .bool false, .bool K.og, .int .i64 K.a, .int .i64 K.b, .int .i64 K.c, .int .i64 K.d, .int .i64 K.l, .int .i64 K.r, .int .i64 K.s]))] (by kernel_rfl) (by kernel_rfl) (by kernel_rfl) (by rfl) (by simp [apartK] <;> omega) (by simp [startK]) (by simp [stabK]) (⟨fun _ => undef, by simp [okK]⟩) (fun β hβ => ?_)
  repeat (
    refine lex_val (v := ?_) rfl rfl (fun w' hf => ?_) ?_
    rotate_left
    · obtain ⟨⟨a0, a1, a2, a3, a4, a5, a6, a7⟩, c0, c1, c2, c3, c4, c5, c6, c7, c8, c9, c10, c11, c12⟩ := HX.out w' hf.only; go_simp
      try rfl
    try simp only [Act.put, List.setIfInBounds_toArray, List.set_cons_zero, List.set_cons_succ])
  refine lex_call (f := 27) (args := ?_) rfl rfl (fun w' hf => ?_) (fun w' hf => ?_) ?_
  rotate_left
  · go_simp
    try rfl
  · exact HU1.out w'
  try simp only [Act.put, List.setIfInBounds_toArray, List.set_cons_zero, List.set_cons_succ]
  repeat (
    refine lex_val (v := ?_) rfl rfl (fun w' hf => ?_) ?_
    rotate_left
    · obtain ⟨⟨a0, a1, a2, a3, a4, a5, a6, a7⟩, c0, c1, c2, c3, c4, c5, c6, c7, c8, c9, c10, c11, c12⟩ := HX.out w' hf.only; go_simp
      try rfl
    try simp only [Act.put, List.setIfInBounds_toArray, List.set_cons_zero, List.set_cons_succ])
  refine lex_call (f := 27) (args := ?_) rfl rfl (fun w' hf => ?_) (fun w' hf => ?_) ?_
  rotate_left
  · go_simp
    try rfl
  · exact HU2.out w'
  try simp only [Act.put, List.setIfInBounds_toArray, List.set_cons_zero, List.set_cons_succ]
  repeat (
    refine lex_val (v := ?_) rfl rfl (fun w' hf => ?_) ?_
    rotate_left
    · obtain ⟨⟨a0, a1, a2, a3, a4, a5, a6, a7⟩, c0, c1, c2, c3, c4, c5, c6, c7, c8, c9, c10, c11, c12⟩ := HX.out w' hf.only; go_simp
      try rfl
    try simp only [Act.put, List.setIfInBounds_toArray, List.set_cons_zero, List.set_cons_succ])
  refine lex_call (f := 27) (args := ?_) rfl rfl (fun w' hf => ?_) (fun w' hf => ?_) ?_
  rotate_left
  · go_simp
    try rfl
  · exact HU3.out w'
  try simp only [Act.put, List.setIfInBounds_toArray, List.set_cons_zero, List.set_cons_succ]
  refine lex_val (v := ?_) rfl rfl (fun w' hf => ?_) ?_
  rotate_left
  · have he := HE.out; have hg := HG.out; go_simp
    try rfl
  try simp only [Act.put, List.setIfInBounds_toArray, List.set_cons_zero, List.set_cons_succ]
  repeat (
    refine lex_val (v := ?_) rfl rfl (fun w' hf => ?_) ?_
    rotate_left
    · obtain ⟨⟨a0, a1, a2, a3, a4, a5, a6, a7⟩, c0, c1, c2, c3, c4, c5, c6, c7, c8, c9, c10, c11, c12⟩ := HX.out w' hf.only; go_simp
      try rfl
    try simp only [Act.put, List.setIfInBounds_toArray, List.set_cons_zero, List.set_cons_succ])
  refine lex_call (f := 28) (args := ?_) rfl rfl (fun w' hf => ?_) (fun w' hf => ?_) ?_
  rotate_left
  · go_simp
    try rfl
  · exact HD1.out w'
  try simp only [Act.put, List.setIfInBounds_toArray, List.set_cons_zero, List.set_cons_succ]
  repeat (
    refine lex_val (v := ?_) rfl rfl (fun w' hf => ?_) ?_
    rotate_left
    · obtain ⟨⟨a0, a1, a2, a3, a4, a5, a6, a7⟩, c0, c1, c2, c3, c4, c5, c6, c7, c8, c9, c10, c11, c12⟩ := HX.out w' hf.only; go_simp
      try rfl
    try simp only [Act.put, List.setIfInBounds_toArray, List.set_cons_zero, List.set_cons_succ])
  refine lex_call (f := 28) (args := ?_) rfl rfl (fun w' hf => ?_) (fun w' hf => ?_) ?_
  rotate_left
  · go_simp
    try rfl
  · exact HD2.out w'
  try simp only [Act.put, List.setIfInBounds_toArray, List.set_cons_zero, List.set_cons_succ]
  repeat (
    refine lex_val (v := ?_) rfl rfl (fun w' hf => ?_) ?_
    rotate_left
    · obtain ⟨⟨a0, a1, a2, a3, a4, a5, a6, a7⟩, c0, c1, c2, c3, c4, c5, c6, c7, c8, c9, c10, c11, c12⟩ := HX.out w' hf.only; go_simp
      try rfl
    try simp only [Act.put, List.setIfInBounds_toArray, List.set_cons_zero, List.set_cons_succ])
  refine lex_call (f := 28) (args := ?_) rfl rfl (fun w' hf => ?_) (fun w' hf => ?_) ?_
  rotate_left
  · go_simp
    try rfl
  · exact HD3.out w'
  try simp only [Act.put, List.setIfInBounds_toArray, List.set_cons_zero, List.set_cons_succ]
  refine lex_val (v := ?_) rfl rfl (fun w' hf => ?_) ?_
  rotate_left
  · have he := HE.out; have hg := HG.out; go_simp
    try rfl
  try simp only [Act.put, List.setIfInBounds_toArray, List.set_cons_zero, List.set_cons_succ]
  repeat (
    refine lex_val (v := ?_) rfl rfl (fun w' hf => ?_) ?_
    rotate_left
    · obtain ⟨⟨a0, a1, a2, a3, a4, a5, a6, a7⟩, c0, c1, c2, c3, c4, c5, c6, c7, c8, c9, c10, c11, c12⟩ := HX.out w' hf.only; go_simp
      try rfl
    try simp only [Act.put, List.setIfInBounds_toArray, List.set_cons_zero, List.set_cons_succ])
  refine lex_call (f := 29) (args := ?_) rfl rfl (fun w' hf => ?_) (fun w' hf => ?_) ?_
  rotate_left
  · go_simp
    try rfl
  · exact HL1.out w'
  try simp only [Act.put, List.setIfInBounds_toArray, List.set_cons_zero, List.set_cons_succ]
  repeat (
    refine lex_val (v := ?_) rfl rfl (fun w' hf => ?_) ?_
    rotate_left
    · obtain ⟨⟨a0, a1, a2, a3, a4, a5, a6, a7⟩, c0, c1, c2, c3, c4, c5, c6, c7, c8, c9, c10, c11, c12⟩ := HX.out w' hf.only; go_simp
      try rfl
    try simp only [Act.put, List.setIfInBounds_toArray, List.set_cons_zero, List.set_cons_succ])
  refine lex_call (f := 29) (args := ?_) rfl rfl (fun w' hf => ?_) (fun w' hf => ?_) ?_
  rotate_left
  · go_simp
    try rfl
  · exact HL2.out w'
  try simp only [Act.put, List.setIfInBounds_toArray, List.set_cons_zero, List.set_cons_succ]
  repeat (
    refine lex_val (v := ?_) rfl rfl (fun w' hf => ?_) ?_
    rotate_left
    · obtain ⟨⟨a0, a1, a2, a3, a4, a5, a6, a7⟩, c0, c1, c2, c3, c4, c5, c6, c7, c8, c9, c10, c11, c12⟩ := HX.out w' hf.only; go_simp
      try rfl
    try simp only [Act.put, List.setIfInBounds_toArray, List.set_cons_zero, List.set_cons_succ])
  refine lex_call (f := 29) (args := ?_) rfl rfl (fun w' hf => ?_) (fun w' hf => ?_) ?_
  rotate_left
  · go_simp
    try rfl
  · exact HL3.out w'
  try simp only [Act.put, List.setIfInBounds_toArray, List.set_cons_zero, List.set_cons_succ]
  refine lex_val (v := ?_) rfl rfl (fun w' hf => ?_) ?_
  rotate_left
  · have he := HE.out; have hg := HG.out; go_simp
    try rfl
  try simp only [Act.put, List.setIfInBounds_toArray, List.set_cons_zero, List.set_cons_succ]
  repeat (
    refine lex_val (v := ?_) rfl rfl (fun w' hf => ?_) ?_
    rotate_left
    · obtain ⟨⟨a0, a1, a2, a3, a4, a5, a6, a7⟩, c0, c1, c2, c3, c4, c5, c6, c7, c8, c9, c10, c11, c12⟩ := HX.out w' hf.only; go_simp
      try rfl
    try simp only [Act.put, List.setIfInBounds_toArray, List.set_cons_zero, List.set_cons_succ])
  refine lex_call (f := 30) (args := ?_) rfl rfl (fun w' hf => ?_) (fun w' hf => ?_) ?_
  rotate_left
  · go_simp
    try rfl
  · exact HR1.out w'
  try simp only [Act.put, List.setIfInBounds_toArray, List.set_cons_zero, List.set_cons_succ]
  repeat (
    refine lex_val (v := ?_) rfl rfl (fun w' hf => ?_) ?_
    rotate_left
    · obtain ⟨⟨a0, a1, a2, a3, a4, a5, a6, a7⟩, c0, c1, c2, c3, c4, c5, c6, c7, c8, c9, c10, c11, c12⟩ := HX.out w' hf.only; go_simp
      try rfl
    try simp only [Act.put, List.setIfInBounds_toArray, List.set_cons_zero, List.set_cons_succ])
  refine lex_call (f := 30) (args := ?_) rfl rfl (fun w' hf => ?_) (fun w' hf => ?_) ?_
  rotate_left
  · go_simp
    try rfl
  · exact HR2.out w'
  try simp only [Act.put, List.setIfInBounds_toArray, List.set_cons_zero, List.set_cons_succ]
  repeat (
    refine lex_val (v := ?_) rfl rfl (fun w' hf => ?_) ?_
    rotate_left
    · obtain ⟨⟨a0, a1, a2, a3, a4, a5, a6, a7⟩, c0, c1, c2, c3, c4, c5, c6, c7, c8, c9, c10, c11, c12⟩ := HX.out w' hf.only; go_simp
      try rfl
    try simp only [Act.put, List.setIfInBounds_toArray, List.set_cons_zero, List.set_cons_succ])
  refine lex_call (f := 30) (args := ?_) rfl rfl (fun w' hf => ?_) (fun w' hf => ?_) ?_
  rotate_left
  · go_simp
    try rfl
  · exact HR3.out w'
  try simp only [Act.put, List.setIfInBounds_toArray, List.set_cons_zero, List.set_cons_succ]
  refine lex_val (v := ?_) rfl rfl (fun w' hf => ?_) ?_
  rotate_left
  · have he := HE.out; have hg := HG.out; go_simp
    try rfl
  try simp only [Act.put, List.setIfInBounds_toArray, List.set_cons_zero, List.set_cons_succ]
  repeat (
    refine lex_val (v := ?_) rfl rfl (fun w' hf => ?_) ?_
    rotate_left
    · obtain ⟨⟨a0, a1, a2, a3, a4, a5, a6, a7⟩, c0, c1, c2, c3, c4, c5, c6, c7, c8, c9, c10, c11, c12⟩ := HX.out w' hf.only; go_simp
      try rfl
    try simp only [Act.put, List.setIfInBounds_toArray, List.set_cons_zero, List.set_cons_succ])
  refine lex_call (f := 31) (args := ?_) rfl rfl (fun w' hf => ?_) (fun w' hf => ?_) ?_
  rotate_left
  · go_simp
    try rfl
  · exact HT1.out w'
  try simp only [Act.put, List.setIfInBounds_toArray, List.set_cons_zero, List.set_cons_succ]
  repeat (
    refine lex_val (v := ?_) rfl rfl (fun w' hf => ?_) ?_
    rotate_left
    · obtain ⟨⟨a0, a1, a2, a3, a4, a5, a6, a7⟩, c0, c1, c2, c3, c4, c5, c6, c7, c8, c9, c10, c11, c12⟩ := HX.out w' hf.only; go_simp
      try rfl
    try simp only [Act.put, List.setIfInBounds_toArray, List.set_cons_zero, List.set_cons_succ])
  refine lex_call (f := 31) (args := ?_) rfl rfl (fun w' hf => ?_) (fun w' hf => ?_) ?_
  rotate_left
  · go_simp
    try rfl
  · exact HT2.out w'
  try simp only [Act.put, List.setIfInBounds_toArray, List.set_cons_zero, List.set_cons_succ]
  repeat (
    refine lex_val (v := ?_) rfl rfl (fun w' hf => ?_) ?_
    rotate_left
    · obtain ⟨⟨a0, a1, a2, a3, a4, a5, a6, a7⟩, c0, c1, c2, c3, c4, c5, c6, c7, c8, c9, c10, c11, c12⟩ := HX.out w' hf.only; go_simp
      try rfl
    try simp only [Act.put, List.setIfInBounds_toArray, List.set_cons_zero, List.set_cons_succ])
  refine lex_call (f := 31) (args := ?_) rfl rfl (fun w' hf => ?_) (fun w' hf => ?_) ?_
  rotate_left
  · go_simp
    try rfl
  · exact HT1.out w'
  try simp only [Act.put, List.setIfInBounds_toArray, List.set_cons_zero, List.set_cons_succ]
  refine lex_val (v := ?_) rfl rfl (fun w' hf => ?_) ?_
  rotate_left
  · have he := HE.out; have hg := HG.out; go_simp
    try rfl
  try simp only [Act.put, List.setIfInBounds_toArray, List.set_cons_zero, List.set_cons_succ]
  repeat (
    refine lex_val (v := ?_) rfl rfl (fun w' hf => ?_) ?_
    rotate_left
    · go_simp
      try rfl
    try simp only [Act.put, List.setIfInBounds_toArray, List.set_cons_zero, List.set_cons_succ])
  refine lex_nil fun w5 he => ?_
  have HK5 := Lib.hid (HK4.out.next he.only.below0)
  clear he
  go_wp2_with fail
  go_ret
  exact ⟨rfl, HK5.out.bel⟩

set_option maxRecDepth 100000 in
/-- What the walk gives, for every argument and every world that holds the table. -/
theorem contract (H : Type) (enc : TypeId × Value → H) (W : World) (base : Nat) (args : Array Value) (ds gs : List (DataW H)) (before : List MemPlace)
    (hval : ∀ (j : Nat) t v, Try.f6.params[j]? = some t → args[j]? = some v → Value.okWide Try.prog W .any base t v)
    (hW : DataW.Whole enc Try.prog Try.f6.params.toList Rows.cursJoinsSpec.vars false W args.toList ds gs before) (_hL : laidMetH Try.prog Rows.cursJoinsRow.laid W)
    (hreach : (DataW.weightsEach Try.prog (Try.f6.params.toList ++ []) (ds ++ gs)).all (· ≤ reachBytes) = true) :
    Calls Try.prog 6 args W fun e W' => ∃ v, e = .returned v ∧ Rows.cursJoinsSpec.post enc Try.prog Try.f6 false true false false W args v W' := by
  have hW' := hW
  clear _hL
  have hlts : ∀ x ∈ before, x.block < W.heap.size := fun x hx => hW'.lt x hx
  obtain ⟨p, q, hA0, hV, rfl, hfz, hnd⟩ := hW
  have hA : DataW.TrodAll enc Try.prog W 0 (fun _ => true) true Try.f6.params.toList args.toList ds p := hA0
  rw [Try.params6] at hA hval hreach
  obtain ⟨v0, vs0, d0, ds0, pp0, qq0, hargs, rfl, rfl, h0, rr0⟩ := trodAll_cons hA
  obtain ⟨v1, vs1, d1, ds1, pp1, qq1, rfl, rfl, rfl, h1, rr1⟩ := trodAll_cons rr0
  obtain ⟨v2, vs2, d2, ds2, pp2, qq2, rfl, rfl, rfl, h2, rr2⟩ := trodAll_cons rr1
  obtain ⟨rfl, rfl, rfl⟩ := trodAll_nil rr2
  obtain rfl : args = #[v0, v1, v2] := by cases args; simp_all
  obtain ⟨rfl, rfl⟩ := trodVars_none hV
  obtain ⟨r0, c0, wp0, K0, rfl⟩ := curs_in (hval 0 27 v0 rfl rfl) h0
  obtain ⟨f1, rfl⟩ := fram_in (hval 1 31 v1 rfl rfl) h1
  obtain ⟨p2, q2, rfl⟩ := arr2_in (hval 2 61 v2 rfl rfl) h2
  clear hA0
  refine (walk r0 c0 wp0 K0 f1 p2 q2 W).mono fun e W' ⟨he, hb⟩ => ?_
  subst he
  exact ⟨_, rfl, post_law laidOut (by kernel_rfl) (by kernel_rfl) rfl hW' rfl hb⟩

set_option maxRecDepth 100000 in
theorem laid_met (os : Os) : laidMet Try.prog Rows.cursJoinsRow.laid ((laidWorld os).forCall (fun _ _ => 0) ⟨#[], #[Value.agg #[.int .i64 0, .int .i64 0, .int .u8 0, .bool false, .bool false, .bool false, .int .i64 0, .int .i64 0, .int .i64 0, .int .i64 0, .int .i64 0, .int .i64 0, .int .i64 0], Value.agg #[.int .i64 0, .int .i64 0, .int .i64 0, .int .i64 0, .int .i64 0, .int .i64 0, .int .i64 0, .int .i64 0], Value.agg #[.int .i64 0, .int .i64 0]], []⟩).memory :=
  laidMet_of_run' 8 (by kernel_rfl) (by kernel_rfl)
set_option maxRecDepth 100000 in
theorem reads (os : Os) {H : Type} (enc : TypeId × Value → H) : ∃ places, DataW.whole enc Try.prog ((laidWorld os).forCall (fun _ _ => 0) ⟨#[], #[Value.agg #[.int .i64 0, .int .i64 0, .int .u8 0, .bool false, .bool false, .bool false, .int .i64 0, .int .i64 0, .int .i64 0, .int .i64 0, .int .i64 0, .int .i64 0, .int .i64 0], Value.agg #[.int .i64 0, .int .i64 0, .int .i64 0, .int .i64 0, .int .i64 0, .int .i64 0, .int .i64 0, .int .i64 0], Value.agg #[.int .i64 0, .int .i64 0]], []⟩).memory Try.f6.params.toList Rows.cursJoinsSpec.vars false (#[Value.agg #[.int .i64 0, .int .i64 0, .int .u8 0, .bool false, .bool false, .bool false, .int .i64 0, .int .i64 0, .int .i64 0, .int .i64 0, .int .i64 0, .int .i64 0, .int .i64 0], Value.agg #[.int .i64 0, .int .i64 0, .int .i64 0, .int .i64 0, .int .i64 0, .int .i64 0, .int .i64 0, .int .i64 0], Value.agg #[.int .i64 0, .int .i64 0]] : Array Value).toList 8 = some ([.agg [.lit (.int .i64 0), .lit (.int .i64 0), .lit (.int .u8 0), .lit (.bool false), .lit (.bool false), .lit (.bool false), .agg [.agg [.lit (.int .i64 0), .lit (.int .i64 0), .lit (.int .i64 0), .lit (.int .i64 0)], .lit (.int .i64 0), .lit (.int .i64 0), .lit (.int .i64 0)]], .agg [.agg [.lit (.int .i64 0), .lit (.int .i64 0), .lit (.int .i64 0), .lit (.int .i64 0)], .agg [.lit (.int .i64 0), .lit (.int .i64 0), .lit (.int .i64 0), .lit (.int .i64 0)]], .agg [.lit (.int .i64 0), .lit (.int .i64 0)]], [], places) :=
  ⟨[], by kernel_rfl⟩

set_option maxRecDepth 100000 in
theorem lifted (os : Os) (started : os.Started) (H : Type) (enc : TypeId × Value → H) (F : Stop.Interp) :
    ReturnsInHanded {} Try.checked os 6 .any ((OpenSpec.ofChange Rows.cursJoinsSpec).preRow enc Try.prog Try.f6 Rows.cursJoinsRow.domain false Rows.cursJoinsRow.laid) (((OpenSpec.ofChange Rows.cursJoinsSpec).at F).post enc Try.prog Try.f6 false true false false) := by
  obtain ⟨places, hx⟩ := reads os enc
  refine returnsInHanded_of_row (C := Try.checked) (s := OpenSpec.ofChange Rows.cursJoinsSpec) own started (by kernel_rfl) Try.func6
    (witness_row_at (enc := enc) (C := Try.checked) false (laidWorld os) #[Value.agg #[.int .i64 0, .int .i64 0, .int .u8 0, .bool false, .bool false, .bool false, .int .i64 0, .int .i64 0, .int .i64 0, .int .i64 0, .int .i64 0, .int .i64 0, .int .i64 0], Value.agg #[.int .i64 0, .int .i64 0, .int .i64 0, .int .i64 0, .int .i64 0, .int .i64 0, .int .i64 0, .int .i64 0], Value.agg #[.int .i64 0, .int .i64 0]] rfl (by kernel_rfl) (by kernel_rfl) (by kernel_rfl)
      (OpenSpec.preRow_of_cond 8 hx (by kernel_rfl) (fun k hk => by cases hk) (by kernel_rfl) (laid_met os))) ?_
  intro W base args ds gs before hval hW _ _ hreach hL _ _
  exact contract H enc W base args ds gs before hval hW hL hreach

theorem said : Rows.CursJoinsSaid :=
  OpenClaim.holds_of_cond 6 Try.f6 rfl rfl rfl rfl rfl rfl rfl ⟨rfl, rfl, rfl, rfl, rfl⟩ rfl rfl rfl rfl rfl (by kernel_rfl) Try.func6 (by kernel_rfl)
    (of_decide_eq_true (by kernel_rfl)) (by unfold Func.isWrapper; first | (rw [if_pos (by decide +kernel)]; kernel_rfl) | (rw [if_neg (by decide +kernel)]; exact ⟨rfl, rfl⟩))
    (fun os started H enc _ F => by rw [OpenClaim.pre_eq_preRow]; exact lifted os started H enc F)

#print axioms said
end Go.Proofs.Ytilfhilebdkmkaa.cursJoins

/-
  Cursors, the document's own answers: to the first column.
-/
import Derived.Test.YtilfhilebdkmkaaCurJ
namespace Go.Proofs.Ytilfhilebdkmkaa
open Go Go.RowKit
set_option maxRecDepth 100000 in
set_option maxHeartbeats 8000000 in
theorem refReturn_any {f : Fr} {H W it il ib ir : Int} (h : FrOk f H W it il ib ir) (r c : Int) (wp : Bool) (K : CK) (w : World) : Calls Try.prog 46 #[uV r c wp K, fV f] w fun e w' => e = .returned (uV (clipP r 0 (H - 1)) (retC K.og (clipP c 0 (W - 1)) il) false K) ∧ Below w.heap.size w w' := by
  have HO := Lib.hid (fun V => on_any h r c wp K V)
  have HI := Lib.hid (fun V => refInnerC_any h V)
  generalize clipP r 0 (H - 1) = p at *
  generalize clipP c 0 (W - 1) = q at *
  have HK := Lib.hid (Bs.start3 w 27 31 27 (uC r c wp K) (fC f) zU)
  have hv : (il ≤ q ∧ retC K.og q il = il) ∨ (decide (il ≤ q) = false ∧ K.og = true ∧ retC K.og q il = il) ∨ (decide (il ≤ q) = false ∧ K.og = false ∧ retC K.og q il = 0) := by
    unfold retC
    by_cases g2 : il ≤ q
    · exact .inl ⟨g2, if_pos (.inr g2)⟩
    · cases g1 : K.og
      · exact .inr (.inr ⟨by simpa using g2, rfl, if_neg (by rintro (h | h) <;> first | cases h | contradiction)⟩)
      · exact .inr (.inl ⟨by simpa using g2, rfl, if_pos (.inl rfl)⟩)
  generalize retC K.og q il = x at *
  clear h
  unfold uV fV bV uC at *
  generalize K.og = og at *
  go_enter Try.func46, Try.ntmps46
  go_wp2_with fail
  refine (HO.out _).mono ?_
  rintro e w1 ⟨rfl, hb1⟩
  have HK1 := Lib.hid (HK.out.next hb1).sw2
  clear hb1 HK HO
  obtain ⟨c0, c1, c2, c3, c4, c5, c6, c7, c8, c9, c10, c11, c12⟩ := cur13 HK1.out.b0
  obtain ⟨z0, z1, z2, z3, z4, z5, z6, z7, z8, z9, z10, z11, z12⟩ := fro13 HK1.out.b0
  have HK1b := HK1.out.p0 (.int .i64 p) (.int .i64 q) (.int .u8 K.rd) (.bool K.kp) (.bool false) (.bool og) (.int .i64 K.a) (.int .i64 K.b) (.int .i64 K.c) (.int .i64 K.d) (.int .i64 K.l) (.int .i64 K.r) (.int .i64 K.s)
  unfold put13 at HK1b
  replace HK1b := Lib.hid HK1b
  go_upto_region 2 with fail
  refine world_gen (fun V => Bs w [(w.heap.size, 27, #[.int .i64 p, .int .i64 q, .int .u8 K.rd, .bool K.kp, .bool false, .bool og, .int .i64 K.a, .int .i64 K.b, .int .i64 K.c, .int .i64 K.d, .int .i64 K.l, .int .i64 K.r, .int .i64 K.s]), (w.heap.size + 1 + 1, 27, zU), (w.heap.size + 1, 31, fC f)] V) HK1b.out ?_
  clear HK1b HK1 c0 c1 c2 c3 c4 c5 c6 c7 c8 c9 c10 c11 c12 z0 z1 z2 z3 z4 z5 z6 z7 z8 z9 z10 z11 z12
  intro V HV
  replace HV := Lib.hid HV
  have HX := Lib.hid (fun w' (h : Only [] V w') => And.intro (fra8 (h.blk HV.out.b2 (by simp))) (cur13 (h.blk HV.out.b0 (by simp))))
  rcases hv with ⟨hq, rfl⟩ | ⟨hq, rfl, rfl⟩ | ⟨hq, rfl, rfl⟩
  · refine wp_region_mix_lit (by kernel_rfl) [(3, .call (.agg #[.int .i64 it, .int .i64 x, .int .i64 ib, .int .i64 ir]))] (by kernel_rfl) (by kernel_rfl) (by kernel_rfl) (by rfl) (by simp [apartK] <;> omega) (by simp [startK]) (by simp [stabK]) (⟨fun _ => undef, by simp [okK]⟩) (fun β hβ => ?_)
    repeat (
      refine lex_val (v := ?_) rfl rfl (fun w' hf => ?_) ?_
      rotate_left
      · obtain ⟨⟨a0, a1, a2, a3, a4, a5, a6, a7⟩, c0, c1, c2, c3, c4, c5, _⟩ := HX.out w' hf.only; go_simp
        try rfl
      try simp only [Act.put, List.setIfInBounds_toArray, List.set_cons_zero, List.set_cons_succ])
    refine lex_call (f := 14) (args := ?_) rfl rfl (fun w' hf => ?_) (fun w' hf => ?_) ?_
    rotate_left
    · go_simp
      try rfl
    · exact HI.out w'
    try simp only [Act.put, List.setIfInBounds_toArray, List.set_cons_zero, List.set_cons_succ]
    repeat (
      refine lex_val (v := ?_) rfl rfl (fun w' hf => ?_) ?_
      rotate_left
      · obtain ⟨⟨a0, a1, a2, a3, a4, a5, a6, a7⟩, c0, c1, c2, c3, c4, c5, _⟩ := HX.out w' hf.only; go_simp
        try rfl
      try simp only [Act.put, List.setIfInBounds_toArray, List.set_cons_zero, List.set_cons_succ])
    repeat (
      refine lex_skip rfl rfl ?_
      try simp only [Act.put, List.setIfInBounds_toArray, List.set_cons_zero, List.set_cons_succ])
    repeat (
      refine lex_val (v := ?_) rfl rfl (fun w' hf => ?_) ?_
      rotate_left
      · go_simp
        try rfl
      try simp only [Act.put, List.setIfInBounds_toArray, List.set_cons_zero, List.set_cons_succ])
    refine lex_nil fun w3 he => ?_
    have HK3 := Lib.hid (HV.out.next he.only.below0)
    clear he HX HV hβ
    obtain ⟨a0, a1, a2, a3, a4, a5, a6, a7⟩ := fra8 HK3.out.b2
    go_wp2_with fail
    have hfl : ∀ W, (Instr.field 29 (.agg #[.int .i64 it, .int .i64 x, .int .i64 ib, .int .i64 ir]) 1).run Try.prog W = .ok (.int .i64 x) W := fun W => by kernel_rfl
    refine (HI.out _).mono ?_
    rintro e w4 ⟨rfl, hb4⟩
    have HK4 := Lib.hid (HK3.out.next hb4)
    clear hb4 a0 a1 a2 a3 a4 a5 a6 a7
    obtain ⟨c0, c1, c2, c3, c4, c5, c6, c7, c8, c9, c10, c11, c12⟩ := cur13 HK4.out.b0
    obtain ⟨z0, z1, z2, z3, z4, z5, z6, z7, z8, z9, z10, z11, z12⟩ := fro13 HK4.out.b0
    obtain ⟨d0, d1, d2, d3, d4, d5, d6, d7, d8, d9, d10, d11, d12⟩ := cur13 HK4.out.b1
    obtain ⟨y0, y1, y2, y3, y4, y5, y6, y7, y8, y9, y10, y11, y12⟩ := fro13 HK4.out.b1
    go_wp2_with fail
    have HK5 := (HK4.out.s0 1 (.int .i64 x)).sw1.p0 (.int .i64 p) (.int .i64 x) (.int .u8 K.rd) (.bool K.kp) (.bool false) (.bool og) (.int .i64 K.a) (.int .i64 K.b) (.int .i64 K.c) (.int .i64 K.d) (.int .i64 K.l) (.int .i64 K.r) (.int .i64 K.s)
    unfold put13 at HK5
    obtain ⟨e0, e1, e2, e3, e4, e5, e6, e7, e8, e9, e10, e11, e12⟩ := cur13 HK5.b0
    exact bodyPost_ret (v := .agg #[.int .i64 p, .int .i64 x, .int .u8 K.rd, .bool K.kp, .bool false, .bool og, .int .i64 K.a, .int .i64 K.b, .int .i64 K.c, .int .i64 K.d, .int .i64 K.l, .int .i64 K.r, .int .i64 K.s]) (by simp [results, Try.results46, go_sem, e0, e1, e2, e3, e4, e5, e6, e7, e8, e9, e10, e11, e12]) rfl ⟨rfl, HK5.bel⟩
  · refine wp_region_mix_lit (by kernel_rfl) [(3, .call (.agg #[.int .i64 it, .int .i64 x, .int .i64 ib, .int .i64 ir]))] (by kernel_rfl) (by kernel_rfl) (by kernel_rfl) (by rfl) (by simp [apartK] <;> omega) (by simp [startK]) (by simp [stabK]) (⟨fun _ => undef, by simp [okK]⟩) (fun β hβ => ?_)
    repeat (
      refine lex_val (v := ?_) rfl rfl (fun w' hf => ?_) ?_
      rotate_left
      · obtain ⟨⟨a0, a1, a2, a3, a4, a5, a6, a7⟩, c0, c1, c2, c3, c4, c5, _⟩ := HX.out w' hf.only; go_simp
        try rfl
      try simp only [Act.put, List.setIfInBounds_toArray, List.set_cons_zero, List.set_cons_succ])
    refine lex_call (f := 14) (args := ?_) rfl rfl (fun w' hf => ?_) (fun w' hf => ?_) ?_
    rotate_left
    · go_simp
      try rfl
    · exact HI.out w'
    try simp only [Act.put, List.setIfInBounds_toArray, List.set_cons_zero, List.set_cons_succ]
    repeat (
      refine lex_val (v := ?_) rfl rfl (fun w' hf => ?_) ?_
      rotate_left
      · obtain ⟨⟨a0, a1, a2, a3, a4, a5, a6, a7⟩, c0, c1, c2, c3, c4, c5, _⟩ := HX.out w' hf.only; go_simp
        try rfl
      try simp only [Act.put, List.setIfInBounds_toArray, List.set_cons_zero, List.set_cons_succ])
    refine lex_nil fun w3 he => ?_
    have HK3 := Lib.hid (HV.out.next he.only.below0)
    clear he HX HV hβ
    obtain ⟨a0, a1, a2, a3, a4, a5, a6, a7⟩ := fra8 HK3.out.b2
    go_wp2_with fail
    have hfl : ∀ W, (Instr.field 29 (.agg #[.int .i64 it, .int .i64 x, .int .i64 ib, .int .i64 ir]) 1).run Try.prog W = .ok (.int .i64 x) W := fun W => by kernel_rfl
    refine (HI.out _).mono ?_
    rintro e w4 ⟨rfl, hb4⟩
    have HK4 := Lib.hid (HK3.out.next hb4)
    clear hb4 a0 a1 a2 a3 a4 a5 a6 a7
    obtain ⟨c0, c1, c2, c3, c4, c5, c6, c7, c8, c9, c10, c11, c12⟩ := cur13 HK4.out.b0
    obtain ⟨z0, z1, z2, z3, z4, z5, z6, z7, z8, z9, z10, z11, z12⟩ := fro13 HK4.out.b0
    obtain ⟨d0, d1, d2, d3, d4, d5, d6, d7, d8, d9, d10, d11, d12⟩ := cur13 HK4.out.b1
    obtain ⟨y0, y1, y2, y3, y4, y5, y6, y7, y8, y9, y10, y11, y12⟩ := fro13 HK4.out.b1
    go_wp2_with fail
    have HK5 := (HK4.out.s0 1 (.int .i64 x)).sw1.p0 (.int .i64 p) (.int .i64 x) (.int .u8 K.rd) (.bool K.kp) (.bool false) (.bool true) (.int .i64 K.a) (.int .i64 K.b) (.int .i64 K.c) (.int .i64 K.d) (.int .i64 K.l) (.int .i64 K.r) (.int .i64 K.s)
    unfold put13 at HK5
    obtain ⟨e0, e1, e2, e3, e4, e5, e6, e7, e8, e9, e10, e11, e12⟩ := cur13 HK5.b0
    exact bodyPost_ret (v := .agg #[.int .i64 p, .int .i64 x, .int .u8 K.rd, .bool K.kp, .bool false, .bool true, .int .i64 K.a, .int .i64 K.b, .int .i64 K.c, .int .i64 K.d, .int .i64 K.l, .int .i64 K.r, .int .i64 K.s]) (by simp [results, Try.results46, go_sem, e0, e1, e2, e3, e4, e5, e6, e7, e8, e9, e10, e11, e12]) rfl ⟨rfl, HK5.bel⟩
  · refine wp_region_mix_lit (by kernel_rfl) [(3, .call (.agg #[.int .i64 it, .int .i64 il, .int .i64 ib, .int .i64 ir]))] (by kernel_rfl) (by kernel_rfl) (by kernel_rfl) (by rfl) (by simp [apartK] <;> omega) (by simp [startK]) (by simp [stabK]) (⟨fun _ => undef, by simp [okK]⟩) (fun β hβ => ?_)
    repeat (
      refine lex_val (v := ?_) rfl rfl (fun w' hf => ?_) ?_
      rotate_left
      · obtain ⟨⟨a0, a1, a2, a3, a4, a5, a6, a7⟩, c0, c1, c2, c3, c4, c5, _⟩ := HX.out w' hf.only; go_simp
        try rfl
      try simp only [Act.put, List.setIfInBounds_toArray, List.set_cons_zero, List.set_cons_succ])
    refine lex_call (f := 14) (args := ?_) rfl rfl (fun w' hf => ?_) (fun w' hf => ?_) ?_
    rotate_left
    · go_simp
      try rfl
    · exact HI.out w'
    try simp only [Act.put, List.setIfInBounds_toArray, List.set_cons_zero, List.set_cons_succ]
    repeat (
      refine lex_val (v := ?_) rfl rfl (fun w' hf => ?_) ?_
      rotate_left
      · obtain ⟨⟨a0, a1, a2, a3, a4, a5, a6, a7⟩, c0, c1, c2, c3, c4, c5, _⟩ := HX.out w' hf.only; go_simp
        try rfl
      try simp only [Act.put, List.setIfInBounds_toArray, List.set_cons_zero, List.set_cons_succ])
    refine lex_nil fun w3 he => ?_
    have HK3 := Lib.hid (HV.out.next he.only.below0)
    clear he HX HV hβ
    have HK4 := HK3
    obtain ⟨c0, c1, c2, c3, c4, c5, c6, c7, c8, c9, c10, c11, c12⟩ := cur13 HK4.out.b0
    obtain ⟨z0, z1, z2, z3, z4, z5, z6, z7, z8, z9, z10, z11, z12⟩ := fro13 HK4.out.b0
    obtain ⟨d0, d1, d2, d3, d4, d5, d6, d7, d8, d9, d10, d11, d12⟩ := cur13 HK4.out.b1
    obtain ⟨y0, y1, y2, y3, y4, y5, y6, y7, y8, y9, y10, y11, y12⟩ := fro13 HK4.out.b1
    go_wp2_with fail
    have HK5 := (HK4.out.s0 1 (.int .i64 0)).sw1.p0 (.int .i64 p) (.int .i64 0) (.int .u8 K.rd) (.bool K.kp) (.bool false) (.bool false) (.int .i64 K.a) (.int .i64 K.b) (.int .i64 K.c) (.int .i64 K.d) (.int .i64 K.l) (.int .i64 K.r) (.int .i64 K.s)
    unfold put13 at HK5
    obtain ⟨e0, e1, e2, e3, e4, e5, e6, e7, e8, e9, e10, e11, e12⟩ := cur13 HK5.b0
    exact bodyPost_ret (v := .agg #[.int .i64 p, .int .i64 0, .int .u8 K.rd, .bool K.kp, .bool false, .bool false, .int .i64 K.a, .int .i64 K.b, .int .i64 K.c, .int .i64 K.d, .int .i64 K.l, .int .i64 K.r, .int .i64 K.s]) (by simp [results, Try.results46, go_sem, e0, e1, e2, e3, e4, e5, e6, e7, e8, e9, e10, e11, e12]) rfl ⟨rfl, HK5.bel⟩
end Go.Proofs.Ytilfhilebdkmkaa

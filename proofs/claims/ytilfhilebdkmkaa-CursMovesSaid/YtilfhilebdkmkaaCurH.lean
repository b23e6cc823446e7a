/-
  Cursors: up, down, to the left, to the right.
-/
import Derived.Test.YtilfhilebdkmkaaCurG
namespace Go.Proofs.Ytilfhilebdkmkaa
open Go Go.RowKit

theorem Bs.sw3 {w W : World} {x y z u : Nat × TypeId × Array Value} {l : List (Nat × TypeId × Array Value)} (h : Bs w (x :: y :: z :: u :: l) W) : Bs w (u :: x :: y :: z :: l) W :=
  ⟨fun v hv => h.1 v (by simp only [List.mem_cons] at hv ⊢; rcases hv with rfl | rfl | rfl | rfl | hv <;> simp [*]), by
    have h2 := h.2.1
    simp only [List.pairwise_cons, List.forall_mem_cons] at h2 ⊢
    exact ⟨⟨fun e => h2.1.2.2.1 e.symm, fun e => h2.2.1.2.1 e.symm, fun e => h2.2.2.1.1 e.symm, h2.2.2.2.1⟩, ⟨h2.1.1, h2.1.2.1, h2.1.2.2.2⟩, ⟨h2.2.1.1, h2.2.1.2.2⟩, h2.2.2.1.2, h2.2.2.2.2⟩, h.2.2⟩
theorem clip_in (r H : Int) (h : 1 ≤ H ∧ H ≤ 2000) : 0 ≤ clipP r 0 (H - 1) ∧ clipP r 0 (H - 1) ≤ H - 1 := by unfold clipP; omega
set_option maxRecDepth 100000 in
set_option maxHeartbeats 8000000 in
theorem up_any {f : Fr} {H W it il ib ir : Int} (h : FrOk f H W it il ib ir) (r c : Int) (wp : Bool) (K : CK) (n : Int) (w : World) : Calls Try.prog 27 #[uV r c wp K, fV f, .int .i64 n] w fun e w' => e = .returned (uV (fewP (clipP r 0 (H - 1)) n 0 it) (clipP c 0 (W - 1)) false K) ∧ Below w.heap.size w w' := by
  have HWh := Lib.hid (fun V => fWhole_any h V)
  have HI := Lib.hid (fun V => fInner_any h V)
  have hs := h.hH; have hs2 := h.hW; have hi := h.hi; have hj := h.hj
  have g1 : Sm 0 := by unfold Sm; omega
  have g2 : Sm H := by unfold Sm; omega
  have g3 : Sm W := by unfold Sm; omega
  have HM := Lib.hid (fun V => moving_any r c wp K 0 0 H W g1 g1 g2 g3 (by omega) (by omega) V)
  have hp := clip_in r H hs
  have hq := clip_in c W hs2
  have HK := Lib.hid (Bs.start3 w 44 35 44 (uC r c wp K) (fC f) zU)
  generalize clipP r 0 (H - 1) = p at *
  generalize clipP c 0 (W - 1) = q at *
  have HG := Lib.hid (fun V => calls_same (fewer_any p n 0 it (by unfold In2; omega) (by unfold In2; omega) (by unfold In2; omega) (by omega) V))
  have s1 : IntKind.i64.wrap (H - 1) = H - 1 := IntWalk.i64_in _ (by omega)
  have s2 : IntKind.i64.wrap (it - 1) = it - 1 := IntWalk.i64_in _ (by omega)
  generalize fewP p n 0 it = x at *
  clear h hs hs2 hi hj g1 g2 g3 hp hq
  unfold uV fV bV at *
  go_enter Try.func27, Try.ntmps27
  go_wp2_with fail
  refine (HWh.out _).mono ?_
  rintro e w1 ⟨rfl, hb1⟩
  have HK1 := Lib.hid (HK.out.next hb1)
  clear hb1 HK
  obtain ⟨c0, c1, c2, c3, c4, c5, c6, c7, c8, c9, c10, c11, c12⟩ := cur13 HK1.out.b2
  have hz : w.heap.size + 1 + 1 < w1.heap.size := HK1.out.b0.lt
  have hz1 : w.heap.size + 1 < w1.heap.size := by omega
  have hz2 : w.heap.size < w1.heap.size := by omega
  go_wp2_with fail
  have HK2 := Lib.hid (HK1.out.alloc 29 #[.int .i64 0, .int .i64 0, .int .i64 H, .int .i64 W])
  refine (HM.out _).mono ?_
  rintro e w2 ⟨rfl, hb2⟩
  have HK3 := Lib.hid (HK2.out.next hb2).sw3
  clear hb2 hz hz1 hz2 c0 c1 c2 c3 c4 c5 c6 c7 c8 c9 c10 c11 c12
  obtain ⟨c0, c1, c2, c3, c4, c5, c6, c7, c8, c9, c10, c11, c12⟩ := cur13 HK3.out.b0
  obtain ⟨z0, z1, z2, z3, z4, z5, z6, z7, z8, z9, z10, z11, z12⟩ := fro13 HK3.out.b0
  have HK4 := HK3.out.p0 (.int .i64 p) (.int .i64 q) (.int .u8 K.rd) (.bool K.kp) (.bool false) (.bool K.og) (.int .i64 K.a) (.int .i64 K.b) (.int .i64 K.c) (.int .i64 K.d) (.int .i64 K.l) (.int .i64 K.r) (.int .i64 K.s)
  unfold put13 at HK4
  replace HK4 := Lib.hid HK4
  go_upto_region 3 with fail
  refine world_gen (fun V => Bs w [(w.heap.size, 44, #[.int .i64 p, .int .i64 q, .int .u8 K.rd, .bool K.kp, .bool false, .bool K.og, .int .i64 K.a, .int .i64 K.b, .int .i64 K.c, .int .i64 K.d, .int .i64 K.l, .int .i64 K.r, .int .i64 K.s]), (w1.heap.size, 29, #[.int .i64 0, .int .i64 0, .int .i64 H, .int .i64 W]), (w.heap.size + 1 + 1, 44, zU), (w.heap.size + 1, 35, fC f)] V) HK4.out ?_
  intro V HV
  replace HV := Lib.hid HV
  have HX := Lib.hid (fun w' (h : Only [w.heap.size] V w') => And.intro (fra8 (h.blk HV.out.b3 (by simp))) (blk4 (h.blk HV.out.b1 (by have := HK2.out.g0; have := HK1.out.b0.lt; simp; omega))))
  clear HK4 HK3 c0 c1 c2 c3 c4 c5 c6 c7 c8 c9 c10 c11 c12 z0 z1 z2 z3 z4 z5 z6 z7 z8 z9 z10 z11 z12
  refine wp_region_mix_lit (by kernel_rfl) [(7, .call (.agg #[.int .i64 it, .int .i64 il, .int .i64 ib, .int .i64 ir])), (9, .call (.int .i64 x)), (12, .store (w.heap.size) 44 #[.int .i64 p, .int .i64 q, .int .u8 K.rd, .bool K.kp, .bool false, .bool K.og, .int .i64 K.a, .int .i64 K.b, .int .i64 K.c, .int .i64 K.d, .int .i64 K.l, .int .i64 K.r, .int .i64 K.s] (fun _ => #[.int .i64 x, .int .i64 q, .int .u8 K.rd, .bool K.kp, .bool false, .bool K.og, .int .i64 K.a, .int .i64 K.b, .int .i64 K.c, .int .i64 K.d, .int .i64 K.l, .int .i64 K.r, .int .i64 K.s]))] (by kernel_rfl) (by kernel_rfl) (by kernel_rfl) (by rfl) (by simp [apartK] <;> omega) (by simp [startK]; exact HV.out.b0) (by simp [stabK]) (⟨fun _ => undef, by simp [okK]⟩) (fun β hβ => ?_)
  repeat (
    refine lex_val (v := ?_) rfl rfl (fun w' hf => ?_) ?_
    rotate_left
    · obtain ⟨⟨a0, a1, a2, a3, a4, a5, a6, a7⟩, b0, b1, b2, b3, _⟩ := HX.out w' hf.only; (try (have hb0 := hf.old 12 _ _ _ _ rfl (by kernel_rfl); obtain ⟨c0, c1, _⟩ := cur13 hb0)); go_simp
      try rfl
    try simp only [Act.put, List.setIfInBounds_toArray, List.set_cons_zero, List.set_cons_succ])
  refine lex_call (f := 13) (args := ?_) rfl rfl (fun w' hf => ?_) (fun w' hf => ?_) ?_
  rotate_left
  · go_simp
    try rfl
  · exact HI.out w'
  try simp only [Act.put, List.setIfInBounds_toArray, List.set_cons_zero, List.set_cons_succ]
  repeat (
    refine lex_val (v := ?_) rfl rfl (fun w' hf => ?_) ?_
    rotate_left
    · obtain ⟨⟨a0, a1, a2, a3, a4, a5, a6, a7⟩, b0, b1, b2, b3, _⟩ := HX.out w' hf.only; go_simp
      try rfl
    try simp only [Act.put, List.setIfInBounds_toArray, List.set_cons_zero, List.set_cons_succ])
  refine lex_call (f := 53) (args := ?_) rfl rfl (fun w' hf => ?_) (fun w' hf => ?_) ?_
  rotate_left
  · go_simp
    try rfl
  · exact HG.out w'
  try simp only [Act.put, List.setIfInBounds_toArray, List.set_cons_zero, List.set_cons_succ]
  repeat (
    refine lex_val (v := ?_) rfl rfl (fun w' hf => ?_) ?_
    rotate_left
    · go_simp
      try rfl
    try simp only [Act.put, List.setIfInBounds_toArray, List.set_cons_zero, List.set_cons_succ])
  refine lex_store rfl rfl (fun w' hf hB => ⟨_, ?_, Repl.set hB 0 (.int .i64 x)⟩) ?_
  · obtain ⟨c0, c1, _⟩ := cur13 hB
    obtain ⟨z0, z1, _⟩ := fro13 hB
    go_simp
  try simp only [Act.put]
  refine lex_nil fun w3 he => ?_
  have hb9 : Blk w3 (w.heap.size) 44 #[.int .i64 x, .int .i64 q, .int .u8 K.rd, .bool K.kp, .bool false, .bool K.og, .int .i64 K.a, .int .i64 K.b, .int .i64 K.c, .int .i64 K.d, .int .i64 K.l, .int .i64 K.r, .int .i64 K.s] := he.facts 12
  have HK5 := Lib.hid (Bs.mix HV.out he.only hb9)
  clear he hb9 HV HX hβ
  obtain ⟨c0, c1, c2, c3, c4, c5, c6, c7, c8, c9, c10, c11, c12⟩ := cur13 HK5.out.b0
  obtain ⟨d0, d1, d2, d3, d4, d5, d6, d7, d8, d9, d10, d11, d12⟩ := cur13 HK5.out.b2
  obtain ⟨z0, z1, z2, z3, z4, z5, z6, z7, z8, z9, z10, z11, z12⟩ := fro13 HK5.out.b2
  have HK6 := HK5.out.sw2.p0 (.int .i64 x) (.int .i64 q) (.int .u8 K.rd) (.bool K.kp) (.bool false) (.bool K.og) (.int .i64 K.a) (.int .i64 K.b) (.int .i64 K.c) (.int .i64 K.d) (.int .i64 K.l) (.int .i64 K.r) (.int .i64 K.s)
  unfold put13 at HK6
  go_wp2_with fail
  obtain ⟨e0, e1, e2, e3, e4, e5, e6, e7, e8, e9, e10, e11, e12⟩ := cur13 HK6.b0
  exact bodyPost_ret (v := .agg #[.int .i64 x, .int .i64 q, .int .u8 K.rd, .bool K.kp, .bool false, .bool K.og, .int .i64 K.a, .int .i64 K.b, .int .i64 K.c, .int .i64 K.d, .int .i64 K.l, .int .i64 K.r, .int .i64 K.s]) (by simp [results, Try.results27, go_sem, e0, e1, e2, e3, e4, e5, e6, e7, e8, e9, e10, e11, e12]) rfl ⟨rfl, HK6.bel⟩
set_option maxRecDepth 100000 in
set_option maxHeartbeats 8000000 in
theorem down_any {f : Fr} {H W it il ib ir : Int} (h : FrOk f H W it il ib ir) (r c : Int) (wp : Bool) (K : CK) (n : Int) (w : World) : Calls Try.prog 28 #[uV r c wp K, fV f, .int .i64 n] w fun e w' => e = .returned (uV (moreP (clipP r 0 (H - 1)) n (H - 1) (ib - 1)) (clipP c 0 (W - 1)) false K) ∧ Below w.heap.size w w' := by
  have HWh := Lib.hid (fun V => fWhole_any h V)
  have HI := Lib.hid (fun V => fInner_any h V)
  have hs := h.hH; have hs2 := h.hW; have hi := h.hi; have hj := h.hj
  have g1 : Sm 0 := by unfold Sm; omega
  have g2 : Sm H := by unfold Sm; omega
  have g3 : Sm W := by unfold Sm; omega
  have HM := Lib.hid (fun V => moving_any r c wp K 0 0 H W g1 g1 g2 g3 (by omega) (by omega) V)
  have hp := clip_in r H hs
  have hq := clip_in c W hs2
  have HK := Lib.hid (Bs.start3 w 44 35 44 (uC r c wp K) (fC f) zU)
  generalize clipP r 0 (H - 1) = p at *
  generalize clipP c 0 (W - 1) = q at *
  have HG := Lib.hid (fun V => calls_same (more_any p n (H - 1) (ib - 1) (by unfold In2; omega) (by unfold In2; omega) (by unfold In2; omega) (by omega) V))
  have s1 : IntKind.i64.wrap (H - 1) = H - 1 := IntWalk.i64_in _ (by omega)
  have s2 : IntKind.i64.wrap (ib - 1) = ib - 1 := IntWalk.i64_in _ (by omega)
  generalize moreP p n (H - 1) (ib - 1) = x at *
  clear h hs hs2 hi hj g1 g2 g3 hp hq
  unfold uV fV bV at *
  go_enter Try.func28, Try.ntmps28
  go_wp2_with fail
  refine (HWh.out _).mono ?_
  rintro e w1 ⟨rfl, hb1⟩
  have HK1 := Lib.hid (HK.out.next hb1)
  clear hb1 HK
  obtain ⟨c0, c1, c2, c3, c4, c5, c6, c7, c8, c9, c10, c11, c12⟩ := cur13 HK1.out.b2
  have hz : w.heap.size + 1 + 1 < w1.heap.size := HK1.out.b0.lt
  have hz1 : w.heap.size + 1 < w1.heap.size := by omega
  have hz2 : w.heap.size < w1.heap.size := by omega
  go_wp2_with fail
  have HK2 := Lib.hid (HK1.out.alloc 29 #[.int .i64 0, .int .i64 0, .int .i64 H, .int .i64 W])
  refine (HM.out _).mono ?_
  rintro e w2 ⟨rfl, hb2⟩
  have HK3 := Lib.hid (HK2.out.next hb2).sw3
  clear hb2 hz hz1 hz2 c0 c1 c2 c3 c4 c5 c6 c7 c8 c9 c10 c11 c12
  obtain ⟨c0, c1, c2, c3, c4, c5, c6, c7, c8, c9, c10, c11, c12⟩ := cur13 HK3.out.b0
  obtain ⟨z0, z1, z2, z3, z4, z5, z6, z7, z8, z9, z10, z11, z12⟩ := fro13 HK3.out.b0
  have HK4 := HK3.out.p0 (.int .i64 p) (.int .i64 q) (.int .u8 K.rd) (.bool K.kp) (.bool false) (.bool K.og) (.int .i64 K.a) (.int .i64 K.b) (.int .i64 K.c) (.int .i64 K.d) (.int .i64 K.l) (.int .i64 K.r) (.int .i64 K.s)
  unfold put13 at HK4
  replace HK4 := Lib.hid HK4
  go_upto_region 3 with fail
  refine world_gen (fun V => Bs w [(w.heap.size, 44, #[.int .i64 p, .int .i64 q, .int .u8 K.rd, .bool K.kp, .bool false, .bool K.og, .int .i64 K.a, .int .i64 K.b, .int .i64 K.c, .int .i64 K.d, .int .i64 K.l, .int .i64 K.r, .int .i64 K.s]), (w1.heap.size, 29, #[.int .i64 0, .int .i64 0, .int .i64 H, .int .i64 W]), (w.heap.size + 1 + 1, 44, zU), (w.heap.size + 1, 35, fC f)] V) HK4.out ?_
  intro V HV
  replace HV := Lib.hid HV
  have HX := Lib.hid (fun w' (h : Only [w.heap.size] V w') => And.intro (fra8 (h.blk HV.out.b3 (by simp))) (blk4 (h.blk HV.out.b1 (by have := HK2.out.g0; have := HK1.out.b0.lt; simp; omega))))
  clear HK4 HK3 c0 c1 c2 c3 c4 c5 c6 c7 c8 c9 c10 c11 c12 z0 z1 z2 z3 z4 z5 z6 z7 z8 z9 z10 z11 z12
  refine wp_region_mix_lit (by kernel_rfl) [(8, .call (.agg #[.int .i64 it, .int .i64 il, .int .i64 ib, .int .i64 ir])), (11, .call (.int .i64 x)), (14, .store (w.heap.size) 44 #[.int .i64 p, .int .i64 q, .int .u8 K.rd, .bool K.kp, .bool false, .bool K.og, .int .i64 K.a, .int .i64 K.b, .int .i64 K.c, .int .i64 K.d, .int .i64 K.l, .int .i64 K.r, .int .i64 K.s] (fun _ => #[.int .i64 x, .int .i64 q, .int .u8 K.rd, .bool K.kp, .bool false, .bool K.og, .int .i64 K.a, .int .i64 K.b, .int .i64 K.c, .int .i64 K.d, .int .i64 K.l, .int .i64 K.r, .int .i64 K.s]))] (by kernel_rfl) (by kernel_rfl) (by kernel_rfl) (by rfl) (by simp [apartK] <;> omega) (by simp [startK]; exact HV.out.b0) (by simp [stabK]) (⟨fun _ => undef, by simp [okK]⟩) (fun β hβ => ?_)
  repeat (
    refine lex_val (v := ?_) rfl rfl (fun w' hf => ?_) ?_
    rotate_left
    · obtain ⟨⟨a0, a1, a2, a3, a4, a5, a6, a7⟩, b0, b1, b2, b3, _⟩ := HX.out w' hf.only; (try (have hb0 := hf.old 14 _ _ _ _ rfl (by kernel_rfl); obtain ⟨c0, c1, _⟩ := cur13 hb0)); go_simp
      try rfl
    try simp only [Act.put, List.setIfInBounds_toArray, List.set_cons_zero, List.set_cons_succ])
  refine lex_call (f := 13) (args := ?_) rfl rfl (fun w' hf => ?_) (fun w' hf => ?_) ?_
  rotate_left
  · go_simp
    try rfl
  · exact HI.out w'
  try simp only [Act.put, List.setIfInBounds_toArray, List.set_cons_zero, List.set_cons_succ]
  repeat (
    refine lex_val (v := ?_) rfl rfl (fun w' hf => ?_) ?_
    rotate_left
    · obtain ⟨⟨a0, a1, a2, a3, a4, a5, a6, a7⟩, b0, b1, b2, b3, _⟩ := HX.out w' hf.only; go_simp
      try rfl
    try simp only [Act.put, List.setIfInBounds_toArray, List.set_cons_zero, List.set_cons_succ])
  refine lex_call (f := 54) (args := ?_) rfl rfl (fun w' hf => ?_) (fun w' hf => ?_) ?_
  rotate_left
  · go_simp
    try rfl
  · exact HG.out w'
  try simp only [Act.put, List.setIfInBounds_toArray, List.set_cons_zero, List.set_cons_succ]
  repeat (
    refine lex_val (v := ?_) rfl rfl (fun w' hf => ?_) ?_
    rotate_left
    · go_simp
      try rfl
    try simp only [Act.put, List.setIfInBounds_toArray, List.set_cons_zero, List.set_cons_succ])
  refine lex_store rfl rfl (fun w' hf hB => ⟨_, ?_, Repl.set hB 0 (.int .i64 x)⟩) ?_
  · obtain ⟨c0, c1, _⟩ := cur13 hB
    obtain ⟨z0, z1, _⟩ := fro13 hB
    go_simp
  try simp only [Act.put]
  refine lex_nil fun w3 he => ?_
  have hb9 : Blk w3 (w.heap.size) 44 #[.int .i64 x, .int .i64 q, .int .u8 K.rd, .bool K.kp, .bool false, .bool K.og, .int .i64 K.a, .int .i64 K.b, .int .i64 K.c, .int .i64 K.d, .int .i64 K.l, .int .i64 K.r, .int .i64 K.s] := he.facts 14
  have HK5 := Lib.hid (Bs.mix HV.out he.only hb9)
  clear he hb9 HV HX hβ
  obtain ⟨c0, c1, c2, c3, c4, c5, c6, c7, c8, c9, c10, c11, c12⟩ := cur13 HK5.out.b0
  obtain ⟨d0, d1, d2, d3, d4, d5, d6, d7, d8, d9, d10, d11, d12⟩ := cur13 HK5.out.b2
  obtain ⟨z0, z1, z2, z3, z4, z5, z6, z7, z8, z9, z10, z11, z12⟩ := fro13 HK5.out.b2
  have HK6 := HK5.out.sw2.p0 (.int .i64 x) (.int .i64 q) (.int .u8 K.rd) (.bool K.kp) (.bool false) (.bool K.og) (.int .i64 K.a) (.int .i64 K.b) (.int .i64 K.c) (.int .i64 K.d) (.int .i64 K.l) (.int .i64 K.r) (.int .i64 K.s)
  unfold put13 at HK6
  go_wp2_with fail
  obtain ⟨e0, e1, e2, e3, e4, e5, e6, e7, e8, e9, e10, e11, e12⟩ := cur13 HK6.b0
  exact bodyPost_ret (v := .agg #[.int .i64 x, .int .i64 q, .int .u8 K.rd, .bool K.kp, .bool false, .bool K.og, .int .i64 K.a, .int .i64 K.b, .int .i64 K.c, .int .i64 K.d, .int .i64 K.l, .int .i64 K.r, .int .i64 K.s]) (by simp [results, Try.results28, go_sem, e0, e1, e2, e3, e4, e5, e6, e7, e8, e9, e10, e11, e12]) rfl ⟨rfl, HK6.bel⟩
set_option maxRecDepth 100000 in
set_option maxHeartbeats 8000000 in
theorem left_any {f : Fr} {H W it il ib ir : Int} (h : FrOk f H W it il ib ir) (r c : Int) (wp : Bool) (K : CK) (n : Int) (w : World) : Calls Try.prog 29 #[uV r c wp K, fV f, .int .i64 n] w fun e w' => e = .returned (uV (clipP r 0 (H - 1)) (fewP (clipP c 0 (W - 1)) n 0 il) false K) ∧ Below w.heap.size w w' := by
  have HWh := Lib.hid (fun V => fWhole_any h V)
  have HI := Lib.hid (fun V => fInner_any h V)
  have hs := h.hH; have hs2 := h.hW; have hi := h.hi; have hj := h.hj
  have g1 : Sm 0 := by unfold Sm; omega
  have g2 : Sm H := by unfold Sm; omega
  have g3 : Sm W := by unfold Sm; omega
  have HM := Lib.hid (fun V => moving_any r c wp K 0 0 H W g1 g1 g2 g3 (by omega) (by omega) V)
  have hp := clip_in r H hs
  have hq := clip_in c W hs2
  have HK := Lib.hid (Bs.start3 w 44 35 44 (uC r c wp K) (fC f) zU)
  generalize clipP r 0 (H - 1) = p at *
  generalize clipP c 0 (W - 1) = q at *
  have HG := Lib.hid (fun V => calls_same (fewer_any q n 0 il (by unfold In2; omega) (by unfold In2; omega) (by unfold In2; omega) (by omega) V))
  have s1 : IntKind.i64.wrap (W - 1) = W - 1 := IntWalk.i64_in _ (by omega)
  have s2 : IntKind.i64.wrap (il - 1) = il - 1 := IntWalk.i64_in _ (by omega)
  generalize fewP q n 0 il = x at *
  clear h hs hs2 hi hj g1 g2 g3 hp hq
  unfold uV fV bV at *
  go_enter Try.func29, Try.ntmps29
  go_wp2_with fail
  refine (HWh.out _).mono ?_
  rintro e w1 ⟨rfl, hb1⟩
  have HK1 := Lib.hid (HK.out.next hb1)
  clear hb1 HK
  obtain ⟨c0, c1, c2, c3, c4, c5, c6, c7, c8, c9, c10, c11, c12⟩ := cur13 HK1.out.b2
  have hz : w.heap.size + 1 + 1 < w1.heap.size := HK1.out.b0.lt
  have hz1 : w.heap.size + 1 < w1.heap.size := by omega
  have hz2 : w.heap.size < w1.heap.size := by omega
  go_wp2_with fail
  have HK2 := Lib.hid (HK1.out.alloc 29 #[.int .i64 0, .int .i64 0, .int .i64 H, .int .i64 W])
  refine (HM.out _).mono ?_
  rintro e w2 ⟨rfl, hb2⟩
  have HK3 := Lib.hid (HK2.out.next hb2).sw3
  clear hb2 hz hz1 hz2 c0 c1 c2 c3 c4 c5 c6 c7 c8 c9 c10 c11 c12
  obtain ⟨c0, c1, c2, c3, c4, c5, c6, c7, c8, c9, c10, c11, c12⟩ := cur13 HK3.out.b0
  obtain ⟨z0, z1, z2, z3, z4, z5, z6, z7, z8, z9, z10, z11, z12⟩ := fro13 HK3.out.b0
  have HK4 := HK3.out.p0 (.int .i64 p) (.int .i64 q) (.int .u8 K.rd) (.bool K.kp) (.bool false) (.bool K.og) (.int .i64 K.a) (.int .i64 K.b) (.int .i64 K.c) (.int .i64 K.d) (.int .i64 K.l) (.int .i64 K.r) (.int .i64 K.s)
  unfold put13 at HK4
  replace HK4 := Lib.hid HK4
  go_upto_region 3 with fail
  refine world_gen (fun V => Bs w [(w.heap.size, 44, #[.int .i64 p, .int .i64 q, .int .u8 K.rd, .bool K.kp, .bool false, .bool K.og, .int .i64 K.a, .int .i64 K.b, .int .i64 K.c, .int .i64 K.d, .int .i64 K.l, .int .i64 K.r, .int .i64 K.s]), (w1.heap.size, 29, #[.int .i64 0, .int .i64 0, .int .i64 H, .int .i64 W]), (w.heap.size + 1 + 1, 44, zU), (w.heap.size + 1, 35, fC f)] V) HK4.out ?_
  intro V HV
  replace HV := Lib.hid HV
  have HX := Lib.hid (fun w' (h : Only [w.heap.size] V w') => And.intro (fra8 (h.blk HV.out.b3 (by simp))) (blk4 (h.blk HV.out.b1 (by have := HK2.out.g0; have := HK1.out.b0.lt; simp; omega))))
  clear HK4 HK3 c0 c1 c2 c3 c4 c5 c6 c7 c8 c9 c10 c11 c12 z0 z1 z2 z3 z4 z5 z6 z7 z8 z9 z10 z11 z12
  refine wp_region_mix_lit (by kernel_rfl) [(7, .call (.agg #[.int .i64 it, .int .i64 il, .int .i64 ib, .int .i64 ir])), (9, .call (.int .i64 x)), (12, .store (w.heap.size) 44 #[.int .i64 p, .int .i64 q, .int .u8 K.rd, .bool K.kp, .bool false, .bool K.og, .int .i64 K.a, .int .i64 K.b, .int .i64 K.c, .int .i64 K.d, .int .i64 K.l, .int .i64 K.r, .int .i64 K.s] (fun _ => #[.int .i64 p, .int .i64 x, .int .u8 K.rd, .bool K.kp, .bool false, .bool K.og, .int .i64 K.a, .int .i64 K.b, .int .i64 K.c, .int .i64 K.d, .int .i64 K.l, .int .i64 K.r, .int .i64 K.s]))] (by kernel_rfl) (by kernel_rfl) (by kernel_rfl) (by rfl) (by simp [apartK] <;> omega) (by simp [startK]; exact HV.out.b0) (by simp [stabK]) (⟨fun _ => undef, by simp [okK]⟩) (fun β hβ => ?_)
  repeat (
    refine lex_val (v := ?_) rfl rfl (fun w' hf => ?_) ?_
    rotate_left
    · obtain ⟨⟨a0, a1, a2, a3, a4, a5, a6, a7⟩, b0, b1, b2, b3, _⟩ := HX.out w' hf.only; (try (have hb0 := hf.old 12 _ _ _ _ rfl (by kernel_rfl); obtain ⟨c0, c1, _⟩ := cur13 hb0)); go_simp
      try rfl
    try simp only [Act.put, List.setIfInBounds_toArray, List.set_cons_zero, List.set_cons_succ])
  refine lex_call (f := 13) (args := ?_) rfl rfl (fun w' hf => ?_) (fun w' hf => ?_) ?_
  rotate_left
  · go_simp
    try rfl
  · exact HI.out w'
  try simp only [Act.put, List.setIfInBounds_toArray, List.set_cons_zero, List.set_cons_succ]
  repeat (
    refine lex_val (v := ?_) rfl rfl (fun w' hf => ?_) ?_
    rotate_left
    · obtain ⟨⟨a0, a1, a2, a3, a4, a5, a6, a7⟩, b0, b1, b2, b3, _⟩ := HX.out w' hf.only; go_simp
      try rfl
    try simp only [Act.put, List.setIfInBounds_toArray, List.set_cons_zero, List.set_cons_succ])
  refine lex_call (f := 53) (args := ?_) rfl rfl (fun w' hf => ?_) (fun w' hf => ?_) ?_
  rotate_left
  · go_simp
    try rfl
  · exact HG.out w'
  try simp only [Act.put, List.setIfInBounds_toArray, List.set_cons_zero, List.set_cons_succ]
  repeat (
    refine lex_val (v := ?_) rfl rfl (fun w' hf => ?_) ?_
    rotate_left
    · go_simp
      try rfl
    try simp only [Act.put, List.setIfInBounds_toArray, List.set_cons_zero, List.set_cons_succ])
  refine lex_store rfl rfl (fun w' hf hB => ⟨_, ?_, Repl.set hB 1 (.int .i64 x)⟩) ?_
  · obtain ⟨c0, c1, _⟩ := cur13 hB
    obtain ⟨z0, z1, _⟩ := fro13 hB
    go_simp
  try simp only [Act.put]
  refine lex_nil fun w3 he => ?_
  have hb9 : Blk w3 (w.heap.size) 44 #[.int .i64 p, .int .i64 x, .int .u8 K.rd, .bool K.kp, .bool false, .bool K.og, .int .i64 K.a, .int .i64 K.b, .int .i64 K.c, .int .i64 K.d, .int .i64 K.l, .int .i64 K.r, .int .i64 K.s] := he.facts 12
  have HK5 := Lib.hid (Bs.mix HV.out he.only hb9)
  clear he hb9 HV HX hβ
  obtain ⟨c0, c1, c2, c3, c4, c5, c6, c7, c8, c9, c10, c11, c12⟩ := cur13 HK5.out.b0
  obtain ⟨d0, d1, d2, d3, d4, d5, d6, d7, d8, d9, d10, d11, d12⟩ := cur13 HK5.out.b2
  obtain ⟨z0, z1, z2, z3, z4, z5, z6, z7, z8, z9, z10, z11, z12⟩ := fro13 HK5.out.b2
  have HK6 := HK5.out.sw2.p0 (.int .i64 p) (.int .i64 x) (.int .u8 K.rd) (.bool K.kp) (.bool false) (.bool K.og) (.int .i64 K.a) (.int .i64 K.b) (.int .i64 K.c) (.int .i64 K.d) (.int .i64 K.l) (.int .i64 K.r) (.int .i64 K.s)
  unfold put13 at HK6
  go_wp2_with fail
  obtain ⟨e0, e1, e2, e3, e4, e5, e6, e7, e8, e9, e10, e11, e12⟩ := cur13 HK6.b0
  exact bodyPost_ret (v := .agg #[.int .i64 p, .int .i64 x, .int .u8 K.rd, .bool K.kp, .bool false, .bool K.og, .int .i64 K.a, .int .i64 K.b, .int .i64 K.c, .int .i64 K.d, .int .i64 K.l, .int .i64 K.r, .int .i64 K.s]) (by simp [results, Try.results29, go_sem, e0, e1, e2, e3, e4, e5, e6, e7, e8, e9, e10, e11, e12]) rfl ⟨rfl, HK6.bel⟩
set_option maxRecDepth 100000 in
set_option maxHeartbeats 8000000 in
theorem right_any {f : Fr} {H W it il ib ir : Int} (h : FrOk f H W it il ib ir) (r c : Int) (wp : Bool) (K : CK) (n : Int) (w : World) : Calls Try.prog 30 #[uV r c wp K, fV f, .int .i64 n] w fun e w' => e = .returned (uV (clipP r 0 (H - 1)) (moreP (clipP c 0 (W - 1)) n (W - 1) (ir - 1)) false K) ∧ Below w.heap.size w w' := by
  have HWh := Lib.hid (fun V => fWhole_any h V)
  have HI := Lib.hid (fun V => fInner_any h V)
  have hs := h.hH; have hs2 := h.hW; have hi := h.hi; have hj := h.hj
  have g1 : Sm 0 := by unfold Sm; omega
  have g2 : Sm H := by unfold Sm; omega
  have g3 : Sm W := by unfold Sm; omega
  have HM := Lib.hid (fun V => moving_any r c wp K 0 0 H W g1 g1 g2 g3 (by omega) (by omega) V)
  have hp := clip_in r H hs
  have hq := clip_in c W hs2
  have HK := Lib.hid (Bs.start3 w 44 35 44 (uC r c wp K) (fC f) zU)
  generalize clipP r 0 (H - 1) = p at *
  generalize clipP c 0 (W - 1) = q at *
  have HG := Lib.hid (fun V => calls_same (more_any q n (W - 1) (ir - 1) (by unfold In2; omega) (by unfold In2; omega) (by unfold In2; omega) (by omega) V))
  have s1 : IntKind.i64.wrap (W - 1) = W - 1 := IntWalk.i64_in _ (by omega)
  have s2 : IntKind.i64.wrap (ir - 1) = ir - 1 := IntWalk.i64_in _ (by omega)
  generalize moreP q n (W - 1) (ir - 1) = x at *
  clear h hs hs2 hi hj g1 g2 g3 hp hq
  unfold uV fV bV at *
  go_enter Try.func30, Try.ntmps30
  go_wp2_with fail
  refine (HWh.out _).mono ?_
  rintro e w1 ⟨rfl, hb1⟩
  have HK1 := Lib.hid (HK.out.next hb1)
  clear hb1 HK
  obtain ⟨c0, c1, c2, c3, c4, c5, c6, c7, c8, c9, c10, c11, c12⟩ := cur13 HK1.out.b2
  have hz : w.heap.size + 1 + 1 < w1.heap.size := HK1.out.b0.lt
  have hz1 : w.heap.size + 1 < w1.heap.size := by omega
  have hz2 : w.heap.size < w1.heap.size := by omega
  go_wp2_with fail
  have HK2 := Lib.hid (HK1.out.alloc 29 #[.int .i64 0, .int .i64 0, .int .i64 H, .int .i64 W])
  refine (HM.out _).mono ?_
  rintro e w2 ⟨rfl, hb2⟩
  have HK3 := Lib.hid (HK2.out.next hb2).sw3
  clear hb2 hz hz1 hz2 c0 c1 c2 c3 c4 c5 c6 c7 c8 c9 c10 c11 c12
  obtain ⟨c0, c1, c2, c3, c4, c5, c6, c7, c8, c9, c10, c11, c12⟩ := cur13 HK3.out.b0
  obtain ⟨z0, z1, z2, z3, z4, z5, z6, z7, z8, z9, z10, z11, z12⟩ := fro13 HK3.out.b0
  have HK4 := HK3.out.p0 (.int .i64 p) (.int .i64 q) (.int .u8 K.rd) (.bool K.kp) (.bool false) (.bool K.og) (.int .i64 K.a) (.int .i64 K.b) (.int .i64 K.c) (.int .i64 K.d) (.int .i64 K.l) (.int .i64 K.r) (.int .i64 K.s)
  unfold put13 at HK4
  replace HK4 := Lib.hid HK4
  go_upto_region 3 with fail
  refine world_gen (fun V => Bs w [(w.heap.size, 44, #[.int .i64 p, .int .i64 q, .int .u8 K.rd, .bool K.kp, .bool false, .bool K.og, .int .i64 K.a, .int .i64 K.b, .int .i64 K.c, .int .i64 K.d, .int .i64 K.l, .int .i64 K.r, .int .i64 K.s]), (w1.heap.size, 29, #[.int .i64 0, .int .i64 0, .int .i64 H, .int .i64 W]), (w.heap.size + 1 + 1, 44, zU), (w.heap.size + 1, 35, fC f)] V) HK4.out ?_
  intro V HV
  replace HV := Lib.hid HV
  have HX := Lib.hid (fun w' (h : Only [w.heap.size] V w') => And.intro (fra8 (h.blk HV.out.b3 (by simp))) (blk4 (h.blk HV.out.b1 (by have := HK2.out.g0; have := HK1.out.b0.lt; simp; omega))))
  clear HK4 HK3 c0 c1 c2 c3 c4 c5 c6 c7 c8 c9 c10 c11 c12 z0 z1 z2 z3 z4 z5 z6 z7 z8 z9 z10 z11 z12
  refine wp_region_mix_lit (by kernel_rfl) [(8, .call (.agg #[.int .i64 it, .int .i64 il, .int .i64 ib, .int .i64 ir])), (11, .call (.int .i64 x)), (14, .store (w.heap.size) 44 #[.int .i64 p, .int .i64 q, .int .u8 K.rd, .bool K.kp, .bool false, .bool K.og, .int .i64 K.a, .int .i64 K.b, .int .i64 K.c, .int .i64 K.d, .int .i64 K.l, .int .i64 K.r, .int .i64 K.s] (fun _ => #[.int .i64 p, .int .i64 x, .int .u8 K.rd, .bool K.kp, .bool false, .bool K.og, .int .i64 K.a, .int .i64 K.b, .int .i64 K.c, .int .i64 K.d, .int .i64 K.l, .int .i64 K.r, .int .i64 K.s]))] (by kernel_rfl) (by kernel_rfl) (by kernel_rfl) (by rfl) (by simp [apartK] <;> omega) (by simp [startK]; exact HV.out.b0) (by simp [stabK]) (⟨fun _ => undef, by simp [okK]⟩) (fun β hβ => ?_)
  repeat (
    refine lex_val (v := ?_) rfl rfl (fun w' hf => ?_) ?_
    rotate_left
    · obtain ⟨⟨a0, a1, a2, a3, a4, a5, a6, a7⟩, b0, b1, b2, b3, _⟩ := HX.out w' hf.only; (try (have hb0 := hf.old 14 _ _ _ _ rfl (by kernel_rfl); obtain ⟨c0, c1, _⟩ := cur13 hb0)); go_simp
      try rfl
    try simp only [Act.put, List.setIfInBounds_toArray, List.set_cons_zero, List.set_cons_succ])
  refine lex_call (f := 13) (args := ?_) rfl rfl (fun w' hf => ?_) (fun w' hf => ?_) ?_
  rotate_left
  · go_simp
    try rfl
  · exact HI.out w'
  try simp only [Act.put, List.setIfInBounds_toArray, List.set_cons_zero, List.set_cons_succ]
  repeat (
    refine lex_val (v := ?_) rfl rfl (fun w' hf => ?_) ?_
    rotate_left
    · obtain ⟨⟨a0, a1, a2, a3, a4, a5, a6, a7⟩, b0, b1, b2, b3, _⟩ := HX.out w' hf.only; go_simp
      try rfl
    try simp only [Act.put, List.setIfInBounds_toArray, List.set_cons_zero, List.set_cons_succ])
  refine lex_call (f := 54) (args := ?_) rfl rfl (fun w' hf => ?_) (fun w' hf => ?_) ?_
  rotate_left
  · go_simp
    try rfl
  · exact HG.out w'
  try simp only [Act.put, List.setIfInBounds_toArray, List.set_cons_zero, List.set_cons_succ]
  repeat (
    refine lex_val (v := ?_) rfl rfl (fun w' hf => ?_) ?_
    rotate_left
    · go_simp
      try rfl
    try simp only [Act.put, List.setIfInBounds_toArray, List.set_cons_zero, List.set_cons_succ])
  refine lex_store rfl rfl (fun w' hf hB => ⟨_, ?_, Repl.set hB 1 (.int .i64 x)⟩) ?_
  · obtain ⟨c0, c1, _⟩ := cur13 hB
    obtain ⟨z0, z1, _⟩ := fro13 hB
    go_simp
  try simp only [Act.put]
  refine lex_nil fun w3 he => ?_
  have hb9 : Blk w3 (w.heap.size) 44 #[.int .i64 p, .int .i64 x, .int .u8 K.rd, .bool K.kp, .bool false, .bool K.og, .int .i64 K.a, .int .i64 K.b, .int .i64 K.c, .int .i64 K.d, .int .i64 K.l, .int .i64 K.r, .int .i64 K.s] := he.facts 14
  have HK5 := Lib.hid (Bs.mix HV.out he.only hb9)
  clear he hb9 HV HX hβ
  obtain ⟨c0, c1, c2, c3, c4, c5, c6, c7, c8, c9, c10, c11, c12⟩ := cur13 HK5.out.b0
  obtain ⟨d0, d1, d2, d3, d4, d5, d6, d7, d8, d9, d10, d11, d12⟩ := cur13 HK5.out.b2
  obtain ⟨z0, z1, z2, z3, z4, z5, z6, z7, z8, z9, z10, z11, z12⟩ := fro13 HK5.out.b2
  have HK6 := HK5.out.sw2.p0 (.int .i64 p) (.int .i64 x) (.int .u8 K.rd) (.bool K.kp) (.bool false) (.bool K.og) (.int .i64 K.a) (.int .i64 K.b) (.int .i64 K.c) (.int .i64 K.d) (.int .i64 K.l) (.int .i64 K.r) (.int .i64 K.s)
  unfold put13 at HK6
  go_wp2_with fail
  obtain ⟨e0, e1, e2, e3, e4, e5, e6, e7, e8, e9, e10, e11, e12⟩ := cur13 HK6.b0
  exact bodyPost_ret (v := .agg #[.int .i64 p, .int .i64 x, .int .u8 K.rd, .bool K.kp, .bool false, .bool K.og, .int .i64 K.a, .int .i64 K.b, .int .i64 K.c, .int .i64 K.d, .int .i64 K.l, .int .i64 K.r, .int .i64 K.s]) (by simp [results, Try.results30, go_sem, e0, e1, e2, e3, e4, e5, e6, e7, e8, e9, e10, e11, e12]) rfl ⟨rfl, HK6.bel⟩
end Go.Proofs.Ytilfhilebdkmkaa

/-
  Cursors: a deed of both, ways 1 to 3.
-/
import Derived.Test.YtilfhilebdkmkaaCurQ0
namespace Go.Proofs.Ytilfhilebdkmkaa
open Go Go.RowKit
set_option maxRecDepth 100000 in
set_option maxHeartbeats 8000000 in
theorem do1_any (f : Fr) (r c : Int) (wp : Bool) (K : CK) (r2 c2 : Int) (wp2 : Bool) (K2 : CK) (n m : Int) (p1 q1 : Int) (w1 : Bool) (p2 q2 : Int) (w2 : Bool)
    (hP : ∀ V, Calls Try.prog 27 #[uV r c wp K, fV f, .int .i64 n] V fun e w' => e = .returned (uV p1 q1 w1 K) ∧ Below V.heap.size V w')
    (hR : ∀ V, Calls Try.prog 44 #[uV r2 c2 wp2 K2, fV f, .int .i64 n, .int .i64 (-1), .int .i64 0] V fun e w' => e = .returned (uV p2 q2 w2 K2) ∧ Below V.heap.size V w') (w : World) :
    Calls Try.prog 19 #[uV r c wp K, uV r2 c2 wp2 K2, fV f, .agg #[.int .i64 1, .int .i64 n, .int .i64 m]] w fun e w' => e = .returned (.tuple #[uV p1 q1 w1 K, uV p2 q2 w2 K2]) ∧ Below w.heap.size w w' := by
  have HP := Lib.hid hP; have HR := Lib.hid hR
  have HFr := Lib.hid (fun V => lFrame_any f V)
  have HK := Lib.hid (show Bs w [(w.heap.size + 1 + 1 + 1 + 1 + 1, 27, zU), (w.heap.size + 1 + 1 + 1 + 1, 44, zU), (w.heap.size + 1 + 1 + 1, 51, #[.int .i64 1, .int .i64 n, .int .i64 m]), (w.heap.size + 1 + 1, 31, fC f), (w.heap.size + 1, 27, uC r2 c2 wp2 K2), (w.heap.size, 44, uC r c wp K)] _ from by
    have h := ((((((Bs.nil w).alloc 44 (uC r c wp K)).alloc 27 (uC r2 c2 wp2 K2)).alloc 31 (fC f)).alloc 51 #[.int .i64 1, .int .i64 n, .int .i64 m]).alloc 44 zU).alloc 27 zU
    simp only [World.size_alloc] at h
    exact h)
  clear hP hR
  unfold uV fV at *
  go_enter Try.func19, Try.ntmps19
  go_upto_region 1 with fail
  refine world_gen (fun V => Bs w [(w.heap.size + 1 + 1 + 1 + 1 + 1, 27, zU), (w.heap.size + 1 + 1 + 1 + 1, 44, zU), (w.heap.size + 1 + 1 + 1, 51, #[.int .i64 1, .int .i64 n, .int .i64 m]), (w.heap.size + 1 + 1, 31, fC f), (w.heap.size + 1, 27, uC r2 c2 wp2 K2), (w.heap.size, 44, uC r c wp K)] V) HK.out ?_
  clear HK
  intro V HV
  replace HV := Lib.hid HV
  obtain ⟨a0, a1, a2, a3, a4, a5, a6, a7⟩ := fra8 HV.out.b3
  go_wp2_with fail
  refine (HFr.out _).mono ?_
  rintro e w3 ⟨rfl, hb1⟩
  have HK1 := Lib.hid (HV.out.next hb1)
  have HK2 := Lib.hid (HK1.out.alloc 35 #[.int .i64 f.pt, .int .i64 f.pl, .int .i64 f.pb, .int .i64 f.pr, .int .i64 f.mt, .int .i64 f.ml, .int .i64 f.mb, .int .i64 f.mr])
  have hg := HK1.out.b0.lt
  clear hb1 HV HK1 a0 a1 a2 a3 a4 a5 a6 a7
  have hz0 : w.heap.size + 1 + 1 + 1 < w3.heap.size := by omega
  have hk : (w3.alloc (.cells #[.int .i64 f.pt, .int .i64 f.pl, .int .i64 f.pb, .int .i64 f.pr, .int .i64 f.mt, .int .i64 f.ml, .int .i64 f.mb, .int .i64 f.mr] 35)).cell? ⟨w.heap.size + 1 + 1 + 1, 0, none⟩ = some (.int .i64 1) := HK2.out.b3.cell 0
  have hG := Lib.hid hg
  clear hg
  go_upto_region 4 with fail
  generalize hgg : w3.heap.size = g at *
  have hg := hG.out
  refine world_gen (fun V => Bs w [(g, 35, #[.int .i64 f.pt, .int .i64 f.pl, .int .i64 f.pb, .int .i64 f.pr, .int .i64 f.mt, .int .i64 f.ml, .int .i64 f.mb, .int .i64 f.mr]), (w.heap.size + 1 + 1 + 1 + 1 + 1, 27, zU), (w.heap.size + 1 + 1 + 1 + 1, 44, zU), (w.heap.size + 1 + 1 + 1, 51, #[.int .i64 1, .int .i64 n, .int .i64 m]), (w.heap.size + 1 + 1, 31, fC f), (w.heap.size + 1, 27, uC r2 c2 wp2 K2), (w.heap.size, 44, uC r c wp K)] V) HK2.out ?_
  clear HK2 hk hgg hz0 hG
  intro V HV
  replace HV := Lib.hid HV
  have HX := Lib.hid (fun w' (h : Only [w.heap.size + 1 + 1 + 1 + 1, w.heap.size + 1 + 1 + 1 + 1 + 1] V w') => And.intro (fra8 (h.blk HV.out.b0 (by simp <;> omega))) (And.intro (fra8 (h.blk HV.out.b4 (by simp <;> omega))) (And.intro (cur13 (h.blk HV.out.tl.tl.b4 (by simp <;> omega))) (And.intro (cur13 (h.blk HV.out.tl.b4 (by simp <;> omega))) (and3 (h.blk HV.out.b3 (by simp <;> omega)))))))
  refine wp_region_mix_lit (by kernel_rfl) [(4, .call (.agg #[.int .i64 p1, .int .i64 q1, .int .u8 K.rd, .bool K.kp, .bool w1, .bool K.og, .int .i64 K.a, .int .i64 K.b, .int .i64 K.c, .int .i64 K.d, .int .i64 K.l, .int .i64 K.r, .int .i64 K.s])), (9, .call (.agg #[.int .i64 p2, .int .i64 q2, .int .u8 K2.rd, .bool K2.kp, .bool w2, .bool K2.og, .int .i64 K2.a, .int .i64 K2.b, .int .i64 K2.c, .int .i64 K2.d, .int .i64 K2.l, .int .i64 K2.r, .int .i64 K2.s])), (10, .store (w.heap.size + 1 + 1 + 1 + 1) 44 zU (fun _ => #[.int .i64 p1, .int .i64 q1, .int .u8 K.rd, .bool K.kp, .bool w1, .bool K.og, .int .i64 K.a, .int .i64 K.b, .int .i64 K.c, .int .i64 K.d, .int .i64 K.l, .int .i64 K.r, .int .i64 K.s])), (11, .store (w.heap.size + 1 + 1 + 1 + 1 + 1) 27 zU (fun _ => #[.int .i64 p2, .int .i64 q2, .int .u8 K2.rd, .bool K2.kp, .bool w2, .bool K2.og, .int .i64 K2.a, .int .i64 K2.b, .int .i64 K2.c, .int .i64 K2.d, .int .i64 K2.l, .int .i64 K2.r, .int .i64 K2.s]))] (by kernel_rfl) (by kernel_rfl) (by kernel_rfl) (by rfl) (by simp [apartK] <;> omega) (by simp [startK]; exact ⟨HV.out.b2, HV.out.b1⟩) (by simp [stabK]) (⟨fun _ => undef, by simp [okK]⟩) (fun β hβ => ?_)
  repeat (
    refine lex_val (v := ?_) rfl rfl (fun w' hf => ?_) ?_
    rotate_left
    · obtain ⟨⟨a0, a1, a2, a3, a4, a5, a6, a7⟩, ⟨i0, i1, i2, i3, i4, i5, i6, i7⟩, ⟨c0, c1, c2, c3, c4, c5, c6, c7, c8, c9, c10, c11, c12⟩, ⟨d0, d1, d2, d3, d4, d5, d6, d7, d8, d9, d10, d11, d12⟩, n0, n1, n2⟩ := HX.out w' hf.only; go_simp
      try rfl
    try simp only [Act.put, List.setIfInBounds_toArray, List.set_cons_zero, List.set_cons_succ])
  refine lex_call (f := 27) (args := ?_) rfl rfl (fun w' hf => ?_) (fun w' hf => ?_) ?_
  rotate_left
  · go_simp
    try rfl
  · exact HP.out w'
  try simp only [Act.put, List.setIfInBounds_toArray, List.set_cons_zero, List.set_cons_succ]
  repeat (
    refine lex_val (v := ?_) rfl rfl (fun w' hf => ?_) ?_
    rotate_left
    · obtain ⟨⟨a0, a1, a2, a3, a4, a5, a6, a7⟩, ⟨i0, i1, i2, i3, i4, i5, i6, i7⟩, ⟨c0, c1, c2, c3, c4, c5, c6, c7, c8, c9, c10, c11, c12⟩, ⟨d0, d1, d2, d3, d4, d5, d6, d7, d8, d9, d10, d11, d12⟩, n0, n1, n2⟩ := HX.out w' hf.only; go_simp
      try rfl
    try simp only [Act.put, List.setIfInBounds_toArray, List.set_cons_zero, List.set_cons_succ])
  refine lex_call (f := 44) (args := ?_) rfl rfl (fun w' hf => ?_) (fun w' hf => ?_) ?_
  rotate_left
  · go_simp
    try rfl
  · exact HR.out w'
  try simp only [Act.put, List.setIfInBounds_toArray, List.set_cons_zero, List.set_cons_succ]
  refine lex_store rfl rfl (fun w' hf hB => ⟨_, ?_, put13_repl hB (.int .i64 p1) (.int .i64 q1) (.int .u8 K.rd) (.bool K.kp) (.bool w1) (.bool K.og) (.int .i64 K.a) (.int .i64 K.b) (.int .i64 K.c) (.int .i64 K.d) (.int .i64 K.l) (.int .i64 K.r) (.int .i64 K.s)⟩) ?_
  · obtain ⟨z0, z1, z2, z3, z4, z5, z6, z7, z8, z9, z10, z11, z12⟩ := fro13 hB
    obtain ⟨d0, d1, d2, d3, d4, d5, d6, d7, d8, d9, d10, d11, d12⟩ := cur13 hB
    unfold put13
    go_simp
  try simp only [Act.put]
  refine lex_store rfl rfl (fun w' hf hB => ⟨_, ?_, put13_repl hB (.int .i64 p2) (.int .i64 q2) (.int .u8 K2.rd) (.bool K2.kp) (.bool w2) (.bool K2.og) (.int .i64 K2.a) (.int .i64 K2.b) (.int .i64 K2.c) (.int .i64 K2.d) (.int .i64 K2.l) (.int .i64 K2.r) (.int .i64 K2.s)⟩) ?_
  · obtain ⟨z0, z1, z2, z3, z4, z5, z6, z7, z8, z9, z10, z11, z12⟩ := fro13 hB
    obtain ⟨d0, d1, d2, d3, d4, d5, d6, d7, d8, d9, d10, d11, d12⟩ := cur13 hB
    unfold put13
    go_simp
  try simp only [Act.put]
  refine lex_nil fun w4 he => ?_
  have hb8 : Blk w4 (w.heap.size + 1 + 1 + 1 + 1) 44 #[.int .i64 p1, .int .i64 q1, .int .u8 K.rd, .bool K.kp, .bool w1, .bool K.og, .int .i64 K.a, .int .i64 K.b, .int .i64 K.c, .int .i64 K.d, .int .i64 K.l, .int .i64 K.r, .int .i64 K.s] := he.facts 10
  have hb9 : Blk w4 (w.heap.size + 1 + 1 + 1 + 1 + 1) 27 #[.int .i64 p2, .int .i64 q2, .int .u8 K2.rd, .bool K2.kp, .bool w2, .bool K2.og, .int .i64 K2.a, .int .i64 K2.b, .int .i64 K2.c, .int .i64 K2.d, .int .i64 K2.l, .int .i64 K2.r, .int .i64 K2.s] := he.facts 11
  have HBl := Lib.hid (HV.out.bel.trans (he.only.below (B := w.heap.size) HV.out.bel.size (by simp [stores, Kind.at_] <;> omega)))
  clear he HV HX hβ
  obtain ⟨e0, e1, e2, e3, e4, e5, e6, e7, e8, e9, e10, e11, e12⟩ := cur13 hb8
  obtain ⟨y0, y1, y2, y3, y4, y5, y6, y7, y8, y9, y10, y11, y12⟩ := cur13 hb9
  clear hb8 hb9
  go_wp2_with fail
  exact bodyPost_ret (v := .tuple #[.agg #[.int .i64 p1, .int .i64 q1, .int .u8 K.rd, .bool K.kp, .bool w1, .bool K.og, .int .i64 K.a, .int .i64 K.b, .int .i64 K.c, .int .i64 K.d, .int .i64 K.l, .int .i64 K.r, .int .i64 K.s], .agg #[.int .i64 p2, .int .i64 q2, .int .u8 K2.rd, .bool K2.kp, .bool w2, .bool K2.og, .int .i64 K2.a, .int .i64 K2.b, .int .i64 K2.c, .int .i64 K2.d, .int .i64 K2.l, .int .i64 K2.r, .int .i64 K2.s]]) (by simp [results, Try.results19, go_sem, e0, e1, e2, e3, e4, e5, e6, e7, e8, e9, e10, e11, e12, y0, y1, y2, y3, y4, y5, y6, y7, y8, y9, y10, y11, y12]) rfl ⟨rfl, HBl.out⟩
set_option maxRecDepth 100000 in
set_option maxHeartbeats 8000000 in
theorem do2_any (f : Fr) (r c : Int) (wp : Bool) (K : CK) (r2 c2 : Int) (wp2 : Bool) (K2 : CK) (n m : Int) (p1 q1 : Int) (w1 : Bool) (p2 q2 : Int) (w2 : Bool)
    (hP : ∀ V, Calls Try.prog 28 #[uV r c wp K, fV f, .int .i64 n] V fun e w' => e = .returned (uV p1 q1 w1 K) ∧ Below V.heap.size V w')
    (hR : ∀ V, Calls Try.prog 44 #[uV r2 c2 wp2 K2, fV f, .int .i64 n, .int .i64 1, .int .i64 0] V fun e w' => e = .returned (uV p2 q2 w2 K2) ∧ Below V.heap.size V w') (w : World) :
    Calls Try.prog 19 #[uV r c wp K, uV r2 c2 wp2 K2, fV f, .agg #[.int .i64 2, .int .i64 n, .int .i64 m]] w fun e w' => e = .returned (.tuple #[uV p1 q1 w1 K, uV p2 q2 w2 K2]) ∧ Below w.heap.size w w' := by
  have HP := Lib.hid hP; have HR := Lib.hid hR
  have HFr := Lib.hid (fun V => lFrame_any f V)
  have HK := Lib.hid (show Bs w [(w.heap.size + 1 + 1 + 1 + 1 + 1, 27, zU), (w.heap.size + 1 + 1 + 1 + 1, 44, zU), (w.heap.size + 1 + 1 + 1, 51, #[.int .i64 2, .int .i64 n, .int .i64 m]), (w.heap.size + 1 + 1, 31, fC f), (w.heap.size + 1, 27, uC r2 c2 wp2 K2), (w.heap.size, 44, uC r c wp K)] _ from by
    have h := ((((((Bs.nil w).alloc 44 (uC r c wp K)).alloc 27 (uC r2 c2 wp2 K2)).alloc 31 (fC f)).alloc 51 #[.int .i64 2, .int .i64 n, .int .i64 m]).alloc 44 zU).alloc 27 zU
    simp only [World.size_alloc] at h
    exact h)
  clear hP hR
  unfold uV fV at *
  go_enter Try.func19, Try.ntmps19
  go_upto_region 1 with fail
  refine world_gen (fun V => Bs w [(w.heap.size + 1 + 1 + 1 + 1 + 1, 27, zU), (w.heap.size + 1 + 1 + 1 + 1, 44, zU), (w.heap.size + 1 + 1 + 1, 51, #[.int .i64 2, .int .i64 n, .int .i64 m]), (w.heap.size + 1 + 1, 31, fC f), (w.heap.size + 1, 27, uC r2 c2 wp2 K2), (w.heap.size, 44, uC r c wp K)] V) HK.out ?_
  clear HK
  intro V HV
  replace HV := Lib.hid HV
  obtain ⟨a0, a1, a2, a3, a4, a5, a6, a7⟩ := fra8 HV.out.b3
  go_wp2_with fail
  refine (HFr.out _).mono ?_
  rintro e w3 ⟨rfl, hb1⟩
  have HK1 := Lib.hid (HV.out.next hb1)
  have HK2 := Lib.hid (HK1.out.alloc 35 #[.int .i64 f.pt, .int .i64 f.pl, .int .i64 f.pb, .int .i64 f.pr, .int .i64 f.mt, .int .i64 f.ml, .int .i64 f.mb, .int .i64 f.mr])
  have hg := HK1.out.b0.lt
  clear hb1 HV HK1 a0 a1 a2 a3 a4 a5 a6 a7
  have hz0 : w.heap.size + 1 + 1 + 1 < w3.heap.size := by omega
  have hk : (w3.alloc (.cells #[.int .i64 f.pt, .int .i64 f.pl, .int .i64 f.pb, .int .i64 f.pr, .int .i64 f.mt, .int .i64 f.ml, .int .i64 f.mb, .int .i64 f.mr] 35)).cell? ⟨w.heap.size + 1 + 1 + 1, 0, none⟩ = some (.int .i64 2) := HK2.out.b3.cell 0
  have hG := Lib.hid hg
  clear hg
  go_upto_region 6 with fail
  generalize hgg : w3.heap.size = g at *
  have hg := hG.out
  refine world_gen (fun V => Bs w [(g, 35, #[.int .i64 f.pt, .int .i64 f.pl, .int .i64 f.pb, .int .i64 f.pr, .int .i64 f.mt, .int .i64 f.ml, .int .i64 f.mb, .int .i64 f.mr]), (w.heap.size + 1 + 1 + 1 + 1 + 1, 27, zU), (w.heap.size + 1 + 1 + 1 + 1, 44, zU), (w.heap.size + 1 + 1 + 1, 51, #[.int .i64 2, .int .i64 n, .int .i64 m]), (w.heap.size + 1 + 1, 31, fC f), (w.heap.size + 1, 27, uC r2 c2 wp2 K2), (w.heap.size, 44, uC r c wp K)] V) HK2.out ?_
  clear HK2 hk hgg hz0 hG
  intro V HV
  replace HV := Lib.hid HV
  have HX := Lib.hid (fun w' (h : Only [w.heap.size + 1 + 1 + 1 + 1, w.heap.size + 1 + 1 + 1 + 1 + 1] V w') => And.intro (fra8 (h.blk HV.out.b0 (by simp <;> omega))) (And.intro (fra8 (h.blk HV.out.b4 (by simp <;> omega))) (And.intro (cur13 (h.blk HV.out.tl.tl.b4 (by simp <;> omega))) (And.intro (cur13 (h.blk HV.out.tl.b4 (by simp <;> omega))) (and3 (h.blk HV.out.b3 (by simp <;> omega)))))))
  refine wp_region_mix_lit (by kernel_rfl) [(4, .call (.agg #[.int .i64 p1, .int .i64 q1, .int .u8 K.rd, .bool K.kp, .bool w1, .bool K.og, .int .i64 K.a, .int .i64 K.b, .int .i64 K.c, .int .i64 K.d, .int .i64 K.l, .int .i64 K.r, .int .i64 K.s])), (9, .call (.agg #[.int .i64 p2, .int .i64 q2, .int .u8 K2.rd, .bool K2.kp, .bool w2, .bool K2.og, .int .i64 K2.a, .int .i64 K2.b, .int .i64 K2.c, .int .i64 K2.d, .int .i64 K2.l, .int .i64 K2.r, .int .i64 K2.s])), (10, .store (w.heap.size + 1 + 1 + 1 + 1) 44 zU (fun _ => #[.int .i64 p1, .int .i64 q1, .int .u8 K.rd, .bool K.kp, .bool w1, .bool K.og, .int .i64 K.a, .int .i64 K.b, .int .i64 K.c, .int .i64 K.d, .int .i64 K.l, .int .i64 K.r, .int .i64 K.s])), (11, .store (w.heap.size + 1 + 1 + 1 + 1 + 1) 27 zU (fun _ => #[.int .i64 p2, .int .i64 q2, .int .u8 K2.rd, .bool K2.kp, .bool w2, .bool K2.og, .int .i64 K2.a, .int .i64 K2.b, .int .i64 K2.c, .int .i64 K2.d, .int .i64 K2.l, .int .i64 K2.r, .int .i64 K2.s]))] (by kernel_rfl) (by kernel_rfl) (by kernel_rfl) (by rfl) (by simp [apartK] <;> omega) (by simp [startK]; exact ⟨HV.out.b2, HV.out.b1⟩) (by simp [stabK]) (⟨fun _ => undef, by simp [okK]⟩) (fun β hβ => ?_)
  repeat (
    refine lex_val (v := ?_) rfl rfl (fun w' hf => ?_) ?_
    rotate_left
    · obtain ⟨⟨a0, a1, a2, a3, a4, a5, a6, a7⟩, ⟨i0, i1, i2, i3, i4, i5, i6, i7⟩, ⟨c0, c1, c2, c3, c4, c5, c6, c7, c8, c9, c10, c11, c12⟩, ⟨d0, d1, d2, d3, d4, d5, d6, d7, d8, d9, d10, d11, d12⟩, n0, n1, n2⟩ := HX.out w' hf.only; go_simp
      try rfl
    try simp only [Act.put, List.setIfInBounds_toArray, List.set_cons_zero, List.set_cons_succ])
  refine lex_call (f := 28) (args := ?_) rfl rfl (fun w' hf => ?_) (fun w' hf => ?_) ?_
  rotate_left
  · go_simp
    try rfl
  · exact HP.out w'
  try simp only [Act.put, List.setIfInBounds_toArray, List.set_cons_zero, List.set_cons_succ]
  repeat (
    refine lex_val (v := ?_) rfl rfl (fun w' hf => ?_) ?_
    rotate_left
    · obtain ⟨⟨a0, a1, a2, a3, a4, a5, a6, a7⟩, ⟨i0, i1, i2, i3, i4, i5, i6, i7⟩, ⟨c0, c1, c2, c3, c4, c5, c6, c7, c8, c9, c10, c11, c12⟩, ⟨d0, d1, d2, d3, d4, d5, d6, d7, d8, d9, d10, d11, d12⟩, n0, n1, n2⟩ := HX.out w' hf.only; go_simp
      try rfl
    try simp only [Act.put, List.setIfInBounds_toArray, List.set_cons_zero, List.set_cons_succ])
  refine lex_call (f := 44) (args := ?_) rfl rfl (fun w' hf => ?_) (fun w' hf => ?_) ?_
  rotate_left
  · go_simp
    try rfl
  · exact HR.out w'
  try simp only [Act.put, List.setIfInBounds_toArray, List.set_cons_zero, List.set_cons_succ]
  refine lex_store rfl rfl (fun w' hf hB => ⟨_, ?_, put13_repl hB (.int .i64 p1) (.int .i64 q1) (.int .u8 K.rd) (.bool K.kp) (.bool w1) (.bool K.og) (.int .i64 K.a) (.int .i64 K.b) (.int .i64 K.c) (.int .i64 K.d) (.int .i64 K.l) (.int .i64 K.r) (.int .i64 K.s)⟩) ?_
  · obtain ⟨z0, z1, z2, z3, z4, z5, z6, z7, z8, z9, z10, z11, z12⟩ := fro13 hB
    obtain ⟨d0, d1, d2, d3, d4, d5, d6, d7, d8, d9, d10, d11, d12⟩ := cur13 hB
    unfold put13
    go_simp
  try simp only [Act.put]
  refine lex_store rfl rfl (fun w' hf hB => ⟨_, ?_, put13_repl hB (.int .i64 p2) (.int .i64 q2) (.int .u8 K2.rd) (.bool K2.kp) (.bool w2) (.bool K2.og) (.int .i64 K2.a) (.int .i64 K2.b) (.int .i64 K2.c) (.int .i64 K2.d) (.int .i64 K2.l) (.int .i64 K2.r) (.int .i64 K2.s)⟩) ?_
  · obtain ⟨z0, z1, z2, z3, z4, z5, z6, z7, z8, z9, z10, z11, z12⟩ := fro13 hB
    obtain ⟨d0, d1, d2, d3, d4, d5, d6, d7, d8, d9, d10, d11, d12⟩ := cur13 hB
    unfold put13
    go_simp
  try simp only [Act.put]
  refine lex_nil fun w4 he => ?_
  have hb8 : Blk w4 (w.heap.size + 1 + 1 + 1 + 1) 44 #[.int .i64 p1, .int .i64 q1, .int .u8 K.rd, .bool K.kp, .bool w1, .bool K.og, .int .i64 K.a, .int .i64 K.b, .int .i64 K.c, .int .i64 K.d, .int .i64 K.l, .int .i64 K.r, .int .i64 K.s] := he.facts 10
  have hb9 : Blk w4 (w.heap.size + 1 + 1 + 1 + 1 + 1) 27 #[.int .i64 p2, .int .i64 q2, .int .u8 K2.rd, .bool K2.kp, .bool w2, .bool K2.og, .int .i64 K2.a, .int .i64 K2.b, .int .i64 K2.c, .int .i64 K2.d, .int .i64 K2.l, .int .i64 K2.r, .int .i64 K2.s] := he.facts 11
  have HBl := Lib.hid (HV.out.bel.trans (he.only.below (B := w.heap.size) HV.out.bel.size (by simp [stores, Kind.at_] <;> omega)))
  clear he HV HX hβ
  obtain ⟨e0, e1, e2, e3, e4, e5, e6, e7, e8, e9, e10, e11, e12⟩ := cur13 hb8
  obtain ⟨y0, y1, y2, y3, y4, y5, y6, y7, y8, y9, y10, y11, y12⟩ := cur13 hb9
  clear hb8 hb9
  go_wp2_with fail
  exact bodyPost_ret (v := .tuple #[.agg #[.int .i64 p1, .int .i64 q1, .int .u8 K.rd, .bool K.kp, .bool w1, .bool K.og, .int .i64 K.a, .int .i64 K.b, .int .i64 K.c, .int .i64 K.d, .int .i64 K.l, .int .i64 K.r, .int .i64 K.s], .agg #[.int .i64 p2, .int .i64 q2, .int .u8 K2.rd, .bool K2.kp, .bool w2, .bool K2.og, .int .i64 K2.a, .int .i64 K2.b, .int .i64 K2.c, .int .i64 K2.d, .int .i64 K2.l, .int .i64 K2.r, .int .i64 K2.s]]) (by simp [results, Try.results19, go_sem, e0, e1, e2, e3, e4, e5, e6, e7, e8, e9, e10, e11, e12, y0, y1, y2, y3, y4, y5, y6, y7, y8, y9, y10, y11, y12]) rfl ⟨rfl, HBl.out⟩
set_option maxRecDepth 100000 in
set_option maxHeartbeats 8000000 in
theorem do3_any (f : Fr) (r c : Int) (wp : Bool) (K : CK) (r2 c2 : Int) (wp2 : Bool) (K2 : CK) (n m : Int) (p1 q1 : Int) (w1 : Bool) (p2 q2 : Int) (w2 : Bool)
    (hP : ∀ V, Calls Try.prog 29 #[uV r c wp K, fV f, .int .i64 n] V fun e w' => e = .returned (uV p1 q1 w1 K) ∧ Below V.heap.size V w')
    (hR : ∀ V, Calls Try.prog 44 #[uV r2 c2 wp2 K2, fV f, .int .i64 n, .int .i64 0, .int .i64 (-1)] V fun e w' => e = .returned (uV p2 q2 w2 K2) ∧ Below V.heap.size V w') (w : World) :
    Calls Try.prog 19 #[uV r c wp K, uV r2 c2 wp2 K2, fV f, .agg #[.int .i64 3, .int .i64 n, .int .i64 m]] w fun e w' => e = .returned (.tuple #[uV p1 q1 w1 K, uV p2 q2 w2 K2]) ∧ Below w.heap.size w w' := by
  have HP := Lib.hid hP; have HR := Lib.hid hR
  have HFr := Lib.hid (fun V => lFrame_any f V)
  have HK := Lib.hid (show Bs w [(w.heap.size + 1 + 1 + 1 + 1 + 1, 27, zU), (w.heap.size + 1 + 1 + 1 + 1, 44, zU), (w.heap.size + 1 + 1 + 1, 51, #[.int .i64 3, .int .i64 n, .int .i64 m]), (w.heap.size + 1 + 1, 31, fC f), (w.heap.size + 1, 27, uC r2 c2 wp2 K2), (w.heap.size, 44, uC r c wp K)] _ from by
    have h := ((((((Bs.nil w).alloc 44 (uC r c wp K)).alloc 27 (uC r2 c2 wp2 K2)).alloc 31 (fC f)).alloc 51 #[.int .i64 3, .int .i64 n, .int .i64 m]).alloc 44 zU).alloc 27 zU
    simp only [World.size_alloc] at h
    exact h)
  clear hP hR
  unfold uV fV at *
  go_enter Try.func19, Try.ntmps19
  go_upto_region 1 with fail
  refine world_gen (fun V => Bs w [(w.heap.size + 1 + 1 + 1 + 1 + 1, 27, zU), (w.heap.size + 1 + 1 + 1 + 1, 44, zU), (w.heap.size + 1 + 1 + 1, 51, #[.int .i64 3, .int .i64 n, .int .i64 m]), (w.heap.size + 1 + 1, 31, fC f), (w.heap.size + 1, 27, uC r2 c2 wp2 K2), (w.heap.size, 44, uC r c wp K)] V) HK.out ?_
  clear HK
  intro V HV
  replace HV := Lib.hid HV
  obtain ⟨a0, a1, a2, a3, a4, a5, a6, a7⟩ := fra8 HV.out.b3
  go_wp2_with fail
  refine (HFr.out _).mono ?_
  rintro e w3 ⟨rfl, hb1⟩
  have HK1 := Lib.hid (HV.out.next hb1)
  have HK2 := Lib.hid (HK1.out.alloc 35 #[.int .i64 f.pt, .int .i64 f.pl, .int .i64 f.pb, .int .i64 f.pr, .int .i64 f.mt, .int .i64 f.ml, .int .i64 f.mb, .int .i64 f.mr])
  have hg := HK1.out.b0.lt
  clear hb1 HV HK1 a0 a1 a2 a3 a4 a5 a6 a7
  have hz0 : w.heap.size + 1 + 1 + 1 < w3.heap.size := by omega
  have hk : (w3.alloc (.cells #[.int .i64 f.pt, .int .i64 f.pl, .int .i64 f.pb, .int .i64 f.pr, .int .i64 f.mt, .int .i64 f.ml, .int .i64 f.mb, .int .i64 f.mr] 35)).cell? ⟨w.heap.size + 1 + 1 + 1, 0, none⟩ = some (.int .i64 3) := HK2.out.b3.cell 0
  have hG := Lib.hid hg
  clear hg
  go_upto_region 8 with fail
  generalize hgg : w3.heap.size = g at *
  have hg := hG.out
  refine world_gen (fun V => Bs w [(g, 35, #[.int .i64 f.pt, .int .i64 f.pl, .int .i64 f.pb, .int .i64 f.pr, .int .i64 f.mt, .int .i64 f.ml, .int .i64 f.mb, .int .i64 f.mr]), (w.heap.size + 1 + 1 + 1 + 1 + 1, 27, zU), (w.heap.size + 1 + 1 + 1 + 1, 44, zU), (w.heap.size + 1 + 1 + 1, 51, #[.int .i64 3, .int .i64 n, .int .i64 m]), (w.heap.size + 1 + 1, 31, fC f), (w.heap.size + 1, 27, uC r2 c2 wp2 K2), (w.heap.size, 44, uC r c wp K)] V) HK2.out ?_
  clear HK2 hk hgg hz0 hG
  intro V HV
  replace HV := Lib.hid HV
  have HX := Lib.hid (fun w' (h : Only [w.heap.size + 1 + 1 + 1 + 1, w.heap.size + 1 + 1 + 1 + 1 + 1] V w') => And.intro (fra8 (h.blk HV.out.b0 (by simp <;> omega))) (And.intro (fra8 (h.blk HV.out.b4 (by simp <;> omega))) (And.intro (cur13 (h.blk HV.out.tl.tl.b4 (by simp <;> omega))) (And.intro (cur13 (h.blk HV.out.tl.b4 (by simp <;> omega))) (and3 (h.blk HV.out.b3 (by simp <;> omega)))))))
  refine wp_region_mix_lit (by kernel_rfl) [(4, .call (.agg #[.int .i64 p1, .int .i64 q1, .int .u8 K.rd, .bool K.kp, .bool w1, .bool K.og, .int .i64 K.a, .int .i64 K.b, .int .i64 K.c, .int .i64 K.d, .int .i64 K.l, .int .i64 K.r, .int .i64 K.s])), (9, .call (.agg #[.int .i64 p2, .int .i64 q2, .int .u8 K2.rd, .bool K2.kp, .bool w2, .bool K2.og, .int .i64 K2.a, .int .i64 K2.b, .int .i64 K2.c, .int .i64 K2.d, .int .i64 K2.l, .int .i64 K2.r, .int .i64 K2.s])), (10, .store (w.heap.size + 1 + 1 + 1 + 1) 44 zU (fun _ => #[.int .i64 p1, .int .i64 q1, .int .u8 K.rd, .bool K.kp, .bool w1, .bool K.og, .int .i64 K.a, .int .i64 K.b, .int .i64 K.c, .int .i64 K.d, .int .i64 K.l, .int .i64 K.r, .int .i64 K.s])), (11, .store (w.heap.size + 1 + 1 + 1 + 1 + 1) 27 zU (fun _ => #[.int .i64 p2, .int .i64 q2, .int .u8 K2.rd, .bool K2.kp, .bool w2, .bool K2.og, .int .i64 K2.a, .int .i64 K2.b, .int .i64 K2.c, .int .i64 K2.d, .int .i64 K2.l, .int .i64 K2.r, .int .i64 K2.s]))] (by kernel_rfl) (by kernel_rfl) (by kernel_rfl) (by rfl) (by simp [apartK] <;> omega) (by simp [startK]; exact ⟨HV.out.b2, HV.out.b1⟩) (by simp [stabK]) (⟨fun _ => undef, by simp [okK]⟩) (fun β hβ => ?_)
  repeat (
    refine lex_val (v := ?_) rfl rfl (fun w' hf => ?_) ?_
    rotate_left
    · obtain ⟨⟨a0, a1, a2, a3, a4, a5, a6, a7⟩, ⟨i0, i1, i2, i3, i4, i5, i6, i7⟩, ⟨c0, c1, c2, c3, c4, c5, c6, c7, c8, c9, c10, c11, c12⟩, ⟨d0, d1, d2, d3, d4, d5, d6, d7, d8, d9, d10, d11, d12⟩, n0, n1, n2⟩ := HX.out w' hf.only; go_simp
      try rfl
    try simp only [Act.put, List.setIfInBounds_toArray, List.set_cons_zero, List.set_cons_succ])
  refine lex_call (f := 29) (args := ?_) rfl rfl (fun w' hf => ?_) (fun w' hf => ?_) ?_
  rotate_left
  · go_simp
    try rfl
  · exact HP.out w'
  try simp only [Act.put, List.setIfInBounds_toArray, List.set_cons_zero, List.set_cons_succ]
  repeat (
    refine lex_val (v := ?_) rfl rfl (fun w' hf => ?_) ?_
    rotate_left
    · obtain ⟨⟨a0, a1, a2, a3, a4, a5, a6, a7⟩, ⟨i0, i1, i2, i3, i4, i5, i6, i7⟩, ⟨c0, c1, c2, c3, c4, c5, c6, c7, c8, c9, c10, c11, c12⟩, ⟨d0, d1, d2, d3, d4, d5, d6, d7, d8, d9, d10, d11, d12⟩, n0, n1, n2⟩ := HX.out w' hf.only; go_simp
      try rfl
    try simp only [Act.put, List.setIfInBounds_toArray, List.set_cons_zero, List.set_cons_succ])
  refine lex_call (f := 44) (args := ?_) rfl rfl (fun w' hf => ?_) (fun w' hf => ?_) ?_
  rotate_left
  · go_simp
    try rfl
  · exact HR.out w'
  try simp only [Act.put, List.setIfInBounds_toArray, List.set_cons_zero, List.set_cons_succ]
  refine lex_store rfl rfl (fun w' hf hB => ⟨_, ?_, put13_repl hB (.int .i64 p1) (.int .i64 q1) (.int .u8 K.rd) (.bool K.kp) (.bool w1) (.bool K.og) (.int .i64 K.a) (.int .i64 K.b) (.int .i64 K.c) (.int .i64 K.d) (.int .i64 K.l) (.int .i64 K.r) (.int .i64 K.s)⟩) ?_
  · obtain ⟨z0, z1, z2, z3, z4, z5, z6, z7, z8, z9, z10, z11, z12⟩ := fro13 hB
    obtain ⟨d0, d1, d2, d3, d4, d5, d6, d7, d8, d9, d10, d11, d12⟩ := cur13 hB
    unfold put13
    go_simp
  try simp only [Act.put]
  refine lex_store rfl rfl (fun w' hf hB => ⟨_, ?_, put13_repl hB (.int .i64 p2) (.int .i64 q2) (.int .u8 K2.rd) (.bool K2.kp) (.bool w2) (.bool K2.og) (.int .i64 K2.a) (.int .i64 K2.b) (.int .i64 K2.c) (.int .i64 K2.d) (.int .i64 K2.l) (.int .i64 K2.r) (.int .i64 K2.s)⟩) ?_
  · obtain ⟨z0, z1, z2, z3, z4, z5, z6, z7, z8, z9, z10, z11, z12⟩ := fro13 hB
    obtain ⟨d0, d1, d2, d3, d4, d5, d6, d7, d8, d9, d10, d11, d12⟩ := cur13 hB
    unfold put13
    go_simp
  try simp only [Act.put]
  refine lex_nil fun w4 he => ?_
  have hb8 : Blk w4 (w.heap.size + 1 + 1 + 1 + 1) 44 #[.int .i64 p1, .int .i64 q1, .int .u8 K.rd, .bool K.kp, .bool w1, .bool K.og, .int .i64 K.a, .int .i64 K.b, .int .i64 K.c, .int .i64 K.d, .int .i64 K.l, .int .i64 K.r, .int .i64 K.s] := he.facts 10
  have hb9 : Blk w4 (w.heap.size + 1 + 1 + 1 + 1 + 1) 27 #[.int .i64 p2, .int .i64 q2, .int .u8 K2.rd, .bool K2.kp, .bool w2, .bool K2.og, .int .i64 K2.a, .int .i64 K2.b, .int .i64 K2.c, .int .i64 K2.d, .int .i64 K2.l, .int .i64 K2.r, .int .i64 K2.s] := he.facts 11
  have HBl := Lib.hid (HV.out.bel.trans (he.only.below (B := w.heap.size) HV.out.bel.size (by simp [stores, Kind.at_] <;> omega)))
  clear he HV HX hβ
  obtain ⟨e0, e1, e2, e3, e4, e5, e6, e7, e8, e9, e10, e11, e12⟩ := cur13 hb8
  obtain ⟨y0, y1, y2, y3, y4, y5, y6, y7, y8, y9, y10, y11, y12⟩ := cur13 hb9
  clear hb8 hb9
  go_wp2_with fail
  exact bodyPost_ret (v := .tuple #[.agg #[.int .i64 p1, .int .i64 q1, .int .u8 K.rd, .bool K.kp, .bool w1, .bool K.og, .int .i64 K.a, .int .i64 K.b, .int .i64 K.c, .int .i64 K.d, .int .i64 K.l, .int .i64 K.r, .int .i64 K.s], .agg #[.int .i64 p2, .int .i64 q2, .int .u8 K2.rd, .bool K2.kp, .bool w2, .bool K2.og, .int .i64 K2.a, .int .i64 K2.b, .int .i64 K2.c, .int .i64 K2.d, .int .i64 K2.l, .int .i64 K2.r, .int .i64 K2.s]]) (by simp [results, Try.results19, go_sem, e0, e1, e2, e3, e4, e5, e6, e7, e8, e9, e10, e11, e12, y0, y1, y2, y3, y4, y5, y6, y7, y8, y9, y10, y11, y12]) rfl ⟨rfl, HBl.out⟩
end Go.Proofs.Ytilfhilebdkmkaa

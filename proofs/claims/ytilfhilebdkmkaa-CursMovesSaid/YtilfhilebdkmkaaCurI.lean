/-
  Cursors: to a row, to a column, to a place; to the first column.
-/
import Derived.Test.YtilfhilebdkmkaaCurH
namespace Go.Proofs.Ytilfhilebdkmkaa
open Go Go.RowKit

theorem pick_in {f : Fr} {H W it il ib ir : Int} (h : FrOk f H W it il ib ir) (og : Bool) : 0 ≤ pick og it 0 ∧ pick og it 0 < pick og ib H ∧ pick og ib H ≤ H ∧ 0 ≤ pick og il 0 ∧ pick og il 0 < pick og ir W ∧ pick og ir W ≤ W ∧ H ≤ 2000 ∧ W ≤ 2000 := by
  have := h.hi; have := h.hj; have := h.hH; have := h.hW
  cases og
  · refine ⟨?_, ?_, ?_, ?_, ?_, ?_, ?_, ?_⟩ <;> first | omega | (simp only [pick, Bool.false_eq_true, if_false]; omega)
  · refine ⟨?_, ?_, ?_, ?_, ?_, ?_, ?_, ?_⟩ <;> first | omega | (simp only [pick, if_true]; omega)
/-- Behind a region that made two boxes. -/
theorem Bs.made2 {w W W' : World} {l : List (Nat × TypeId × Array Value)} {b b2 : Nat} {T T2 : TypeId} {cs cs2 : Array Value} (h : Bs w l W) (ho : Only [] W W') (hge : W.heap.size ≤ b) (hn : Blk W' b T cs) (hge2 : W.heap.size ≤ b2) (hn2 : Blk W' b2 T2 cs2) (hne : b ≠ b2) : Bs w ((b, T, cs) :: (b2, T2, cs2) :: l) W' := by
  have h1 := Bs.made h ho hge hn
  have h2 := Bs.made h ho hge2 hn2
  refine ⟨fun y hy => ?_, List.pairwise_cons.2 ⟨fun y hy => ?_, h2.2.1⟩, h1.2.2⟩
  · rcases List.mem_cons.1 hy with rfl | hy
    · exact h1.1 _ (by simp)
    · exact h2.1 y hy
  · rcases List.mem_cons.1 hy with rfl | hy
    · exact hne
    · exact (List.pairwise_cons.1 h1.2.1).1 y hy
theorem Bs.sw4 {w W : World} {x y z u v : Nat × TypeId × Array Value} {l : List (Nat × TypeId × Array Value)} (h : Bs w (x :: y :: z :: u :: v :: l) W) : Bs w (v :: x :: y :: z :: u :: l) W :=
  ⟨fun a ha => h.1 a (by simp only [List.mem_cons] at ha ⊢; rcases ha with rfl | rfl | rfl | rfl | rfl | ha <;> simp [*]), by
    have h2 := h.2.1
    simp only [List.pairwise_cons, List.forall_mem_cons] at h2 ⊢
    exact ⟨⟨fun e => h2.1.2.2.2.1 e.symm, fun e => h2.2.1.2.2.1 e.symm, fun e => h2.2.2.1.2.1 e.symm, fun e => h2.2.2.2.1.1 e.symm, h2.2.2.2.2.1⟩, ⟨h2.1.1, h2.1.2.1, h2.1.2.2.1, h2.1.2.2.2.2⟩, ⟨h2.2.1.1, h2.2.1.2.1, h2.2.1.2.2.2⟩, ⟨h2.2.2.1.1, h2.2.2.1.2.2⟩, h2.2.2.2.1.2, h2.2.2.2.2.2⟩, h.2.2⟩
/-- The number of a line of an area. -/
def lineP (n a b : Int) : Int := a + clipP n 0 (b - a - 1)
theorem lineP_in (n a b : Int) (h : a < b) : a ≤ lineP n a b ∧ lineP n a b < b := by unfold lineP clipP; omega
set_option maxRecDepth 100000 in
set_option maxHeartbeats 8000000 in
theorem toRow_any {f : Fr} {H W it il ib ir : Int} (h : FrOk f H W it il ib ir) (r c : Int) (wp : Bool) (K : CK) (n : Int) (w : World) : Calls Try.prog 33 #[uV r c wp K, fV f, .int .i64 n] w fun e w' => e = .returned (uV (lineP n (pick K.og it 0) (pick K.og ib H)) (clipP c (pick K.og il 0) (pick K.og ir W - 1)) false K) ∧ Below w.heap.size w w' := by
  have HAr := Lib.hid (fun V => fArea_any h K.og V)
  have hp := pick_in h K.og
  clear h
  have HK := Lib.hid (Bs.start3 w 44 35 44 (uC r c wp K) (fC f) zU)
  generalize pick K.og it 0 = t at *
  generalize pick K.og il 0 = l at *
  generalize pick K.og ib H = b at *
  generalize pick K.og ir W = rr at *
  have HM := Lib.hid (fun V => moving_any r c wp K t l b rr (by unfold Sm; omega) (by unfold Sm; omega) (by unfold Sm; omega) (by unfold Sm; omega) (by omega) (by omega) V)
  have HZ := Lib.hid (fun V => size_any t l b rr (by unfold Sm; omega) (by unfold Sm; omega) (by unfold Sm; omega) (by unfold Sm; omega) V)
  rw [show bEm t l b rr = false from by unfold bEm emB; simp; omega] at HZ
  simp only [Bool.false_eq_true, if_false] at HZ
  have HC := Lib.hid (fun V => calls_same (clip_any n 0 (b - t - 1) V))
  have hx := lineP_in n t b (by omega)
  have ex : lineP n t b = t + clipP n 0 (b - t - 1) := rfl
  generalize lineP n t b = x at *
  have s1 : IntKind.i64.wrap (b - t - 1) = b - t - 1 := IntWalk.i64_in _ (by omega)
  have s2 : IntKind.i64.wrap (t + clipP n 0 (b - t - 1)) = t + clipP n 0 (b - t - 1) := IntWalk.i64_in _ (by omega)
  subst ex
  generalize clipP r t (b - 1) = p at *
  generalize clipP c l (rr - 1) = q at *
  generalize clipP n 0 (b - t - 1) = y at *
  clear hp hx
  unfold uV fV bV at *
  go_enter Try.func33, Try.ntmps33
  go_wp2_with fail
  refine (HAr.out _).mono ?_
  rintro e w1 ⟨rfl, hb1⟩
  have HK1 := Lib.hid (HK.out.next hb1)
  clear hb1 HK HAr
  go_wp2_with fail
  have HK2 := Lib.hid (HK1.out.alloc 29 #[.int .i64 t, .int .i64 l, .int .i64 b, .int .i64 rr])
  refine (HZ.out _).mono ?_
  rintro e w2 ⟨rfl, hb2⟩
  have HK3 := Lib.hid (HK2.out.next hb2).sw3
  clear hb2
  obtain ⟨b0, b1, b2, b3, _⟩ := blk4 HK3.out.b1
  obtain ⟨c0, c1, c2, c3, c4, c5, c6, c7, c8, c9, c10, c11, c12⟩ := cur13 HK3.out.b0
  go_wp2_with fail
  refine (HM.out _).mono ?_
  rintro e w3 ⟨rfl, hb3⟩
  have HK4 := Lib.hid (HK3.out.next hb3)
  clear hb3 b0 b1 b2 b3 c0 c1 c2 c3 c4 c5 c6 c7 c8 c9 c10 c11 c12
  obtain ⟨c0, c1, c2, c3, c4, c5, c6, c7, c8, c9, c10, c11, c12⟩ := cur13 HK4.out.b0
  obtain ⟨z0, z1, z2, z3, z4, z5, z6, z7, z8, z9, z10, z11, z12⟩ := fro13 HK4.out.b0
  have HK5 := HK4.out.p0 (.int .i64 p) (.int .i64 q) (.int .u8 K.rd) (.bool K.kp) (.bool false) (.bool K.og) (.int .i64 K.a) (.int .i64 K.b) (.int .i64 K.c) (.int .i64 K.d) (.int .i64 K.l) (.int .i64 K.r) (.int .i64 K.s)
  unfold put13 at HK5
  replace HK5 := Lib.hid HK5
  go_upto_region 4 with fail
  refine world_gen (fun V => Bs w [(w.heap.size, 44, #[.int .i64 p, .int .i64 q, .int .u8 K.rd, .bool K.kp, .bool false, .bool K.og, .int .i64 K.a, .int .i64 K.b, .int .i64 K.c, .int .i64 K.d, .int .i64 K.l, .int .i64 K.r, .int .i64 K.s]), (w1.heap.size, 29, #[.int .i64 t, .int .i64 l, .int .i64 b, .int .i64 rr]), (w.heap.size + 1 + 1, 44, zU), (w.heap.size + 1, 35, fC f)] V) HK5.out ?_
  intro V HV
  replace HV := Lib.hid HV
  have HX := Lib.hid (fun w' (h : Only [w.heap.size] V w') => blk4 (h.blk HV.out.b1 (by have := HK2.out.g0; have := HK1.out.b0.lt; simp; omega)))
  clear HK5 HK4 c0 c1 c2 c3 c4 c5 c6 c7 c8 c9 c10 c11 c12 z0 z1 z2 z3 z4 z5 z6 z7 z8 z9 z10 z11 z12
  refine wp_region_mix_lit (by kernel_rfl) [(5, .call (.int .i64 y)), (9, .store (w.heap.size) 44 #[.int .i64 p, .int .i64 q, .int .u8 K.rd, .bool K.kp, .bool false, .bool K.og, .int .i64 K.a, .int .i64 K.b, .int .i64 K.c, .int .i64 K.d, .int .i64 K.l, .int .i64 K.r, .int .i64 K.s] (fun _ => #[.int .i64 (t + y), .int .i64 q, .int .u8 K.rd, .bool K.kp, .bool false, .bool K.og, .int .i64 K.a, .int .i64 K.b, .int .i64 K.c, .int .i64 K.d, .int .i64 K.l, .int .i64 K.r, .int .i64 K.s]))] (by kernel_rfl) (by kernel_rfl) (by kernel_rfl) (by rfl) (by simp [apartK] <;> omega) (by simp [startK]; exact HV.out.b0) (by simp [stabK]) (⟨fun _ => undef, by simp [okK]⟩) (fun β hβ => ?_)
  repeat (
    refine lex_val (v := ?_) rfl rfl (fun w' hf => ?_) ?_
    rotate_left
    · obtain ⟨b0, b1, b2, b3, _⟩ := HX.out w' hf.only; go_simp
      try rfl
    try simp only [Act.put, List.setIfInBounds_toArray, List.set_cons_zero, List.set_cons_succ])
  refine lex_call (f := 51) (args := ?_) rfl rfl (fun w' hf => ?_) (fun w' hf => ?_) ?_
  rotate_left
  · go_simp
    try rfl
  · exact HC.out w'
  try simp only [Act.put, List.setIfInBounds_toArray, List.set_cons_zero, List.set_cons_succ]
  repeat (
    refine lex_val (v := ?_) rfl rfl (fun w' hf => ?_) ?_
    rotate_left
    · go_simp
      try rfl
    try simp only [Act.put, List.setIfInBounds_toArray, List.set_cons_zero, List.set_cons_succ])
  refine lex_store rfl rfl (fun w' hf hB => ⟨_, ?_, Repl.set hB 0 (.int .i64 (t + y))⟩) ?_
  · obtain ⟨c0, c1, _⟩ := cur13 hB
    obtain ⟨z0, z1, _⟩ := fro13 hB
    go_simp
  try simp only [Act.put]
  refine lex_nil fun w5 he => ?_
  have hb9 : Blk w5 (w.heap.size) 44 #[.int .i64 (t + y), .int .i64 q, .int .u8 K.rd, .bool K.kp, .bool false, .bool K.og, .int .i64 K.a, .int .i64 K.b, .int .i64 K.c, .int .i64 K.d, .int .i64 K.l, .int .i64 K.r, .int .i64 K.s] := he.facts 9
  have HK6 := Lib.hid (Bs.mix HV.out he.only hb9)
  clear he hb9 HV HX hβ
  obtain ⟨c0, c1, c2, c3, c4, c5, c6, c7, c8, c9, c10, c11, c12⟩ := cur13 HK6.out.b0
  obtain ⟨d0, d1, d2, d3, d4, d5, d6, d7, d8, d9, d10, d11, d12⟩ := cur13 HK6.out.b2
  obtain ⟨z0, z1, z2, z3, z4, z5, z6, z7, z8, z9, z10, z11, z12⟩ := fro13 HK6.out.b2
  have HK7 := HK6.out.sw2.p0 (.int .i64 (t + y)) (.int .i64 q) (.int .u8 K.rd) (.bool K.kp) (.bool false) (.bool K.og) (.int .i64 K.a) (.int .i64 K.b) (.int .i64 K.c) (.int .i64 K.d) (.int .i64 K.l) (.int .i64 K.r) (.int .i64 K.s)
  unfold put13 at HK7
  go_wp2_with fail
  obtain ⟨e0, e1, e2, e3, e4, e5, e6, e7, e8, e9, e10, e11, e12⟩ := cur13 HK7.b0
  exact bodyPost_ret (v := .agg #[.int .i64 (t + y), .int .i64 q, .int .u8 K.rd, .bool K.kp, .bool false, .bool K.og, .int .i64 K.a, .int .i64 K.b, .int .i64 K.c, .int .i64 K.d, .int .i64 K.l, .int .i64 K.r, .int .i64 K.s]) (by simp [results, Try.results33, go_sem, e0, e1, e2, e3, e4, e5, e6, e7, e8, e9, e10, e11, e12]) rfl ⟨rfl, HK7.bel⟩
set_option maxRecDepth 100000 in
set_option maxHeartbeats 8000000 in
theorem toCol_any {f : Fr} {H W it il ib ir : Int} (h : FrOk f H W it il ib ir) (r c : Int) (wp : Bool) (K : CK) (n : Int) (w : World) : Calls Try.prog 34 #[uV r c wp K, fV f, .int .i64 n] w fun e w' => e = .returned (uV (clipP r (pick K.og it 0) (pick K.og ib H - 1)) (lineP n (pick K.og il 0) (pick K.og ir W)) false K) ∧ Below w.heap.size w w' := by
  have HAr := Lib.hid (fun V => fArea_any h K.og V)
  have hp := pick_in h K.og
  clear h
  have HK := Lib.hid (Bs.start3 w 44 35 44 (uC r c wp K) (fC f) zU)
  generalize pick K.og it 0 = t at *
  generalize pick K.og il 0 = l at *
  generalize pick K.og ib H = b at *
  generalize pick K.og ir W = rr at *
  have HM := Lib.hid (fun V => moving_any r c wp K t l b rr (by unfold Sm; omega) (by unfold Sm; omega) (by unfold Sm; omega) (by unfold Sm; omega) (by omega) (by omega) V)
  have HZ := Lib.hid (fun V => size_any t l b rr (by unfold Sm; omega) (by unfold Sm; omega) (by unfold Sm; omega) (by unfold Sm; omega) V)
  rw [show bEm t l b rr = false from by unfold bEm emB; simp; omega] at HZ
  simp only [Bool.false_eq_true, if_false] at HZ
  have HC := Lib.hid (fun V => calls_same (clip_any n 0 (rr - l - 1) V))
  have hx := lineP_in n l rr (by omega)
  have ex : lineP n l rr = l + clipP n 0 (rr - l - 1) := rfl
  generalize lineP n l rr = x at *
  have s1 : IntKind.i64.wrap (rr - l - 1) = rr - l - 1 := IntWalk.i64_in _ (by omega)
  have s2 : IntKind.i64.wrap (l + clipP n 0 (rr - l - 1)) = l + clipP n 0 (rr - l - 1) := IntWalk.i64_in _ (by omega)
  subst ex
  generalize clipP r t (b - 1) = p at *
  generalize clipP c l (rr - 1) = q at *
  generalize clipP n 0 (rr - l - 1) = y at *
  clear hp hx
  unfold uV fV bV at *
  go_enter Try.func34, Try.ntmps34
  go_wp2_with fail
  refine (HAr.out _).mono ?_
  rintro e w1 ⟨rfl, hb1⟩
  have HK1 := Lib.hid (HK.out.next hb1)
  clear hb1 HK HAr
  go_wp2_with fail
  have HK2 := Lib.hid (HK1.out.alloc 29 #[.int .i64 t, .int .i64 l, .int .i64 b, .int .i64 rr])
  refine (HZ.out _).mono ?_
  rintro e w2 ⟨rfl, hb2⟩
  have HK3 := Lib.hid (HK2.out.next hb2).sw3
  clear hb2
  obtain ⟨b0, b1, b2, b3, _⟩ := blk4 HK3.out.b1
  obtain ⟨c0, c1, c2, c3, c4, c5, c6, c7, c8, c9, c10, c11, c12⟩ := cur13 HK3.out.b0
  go_wp2_with fail
  refine (HM.out _).mono ?_
  rintro e w3 ⟨rfl, hb3⟩
  have HK4 := Lib.hid (HK3.out.next hb3)
  clear hb3 b0 b1 b2 b3 c0 c1 c2 c3 c4 c5 c6 c7 c8 c9 c10 c11 c12
  obtain ⟨c0, c1, c2, c3, c4, c5, c6, c7, c8, c9, c10, c11, c12⟩ := cur13 HK4.out.b0
  obtain ⟨z0, z1, z2, z3, z4, z5, z6, z7, z8, z9, z10, z11, z12⟩ := fro13 HK4.out.b0
  have HK5 := HK4.out.p0 (.int .i64 p) (.int .i64 q) (.int .u8 K.rd) (.bool K.kp) (.bool false) (.bool K.og) (.int .i64 K.a) (.int .i64 K.b) (.int .i64 K.c) (.int .i64 K.d) (.int .i64 K.l) (.int .i64 K.r) (.int .i64 K.s)
  unfold put13 at HK5
  replace HK5 := Lib.hid HK5
  go_upto_region 4 with fail
  refine world_gen (fun V => Bs w [(w.heap.size, 44, #[.int .i64 p, .int .i64 q, .int .u8 K.rd, .bool K.kp, .bool false, .bool K.og, .int .i64 K.a, .int .i64 K.b, .int .i64 K.c, .int .i64 K.d, .int .i64 K.l, .int .i64 K.r, .int .i64 K.s]), (w1.heap.size, 29, #[.int .i64 t, .int .i64 l, .int .i64 b, .int .i64 rr]), (w.heap.size + 1 + 1, 44, zU), (w.heap.size + 1, 35, fC f)] V) HK5.out ?_
  intro V HV
  replace HV := Lib.hid HV
  have HX := Lib.hid (fun w' (h : Only [w.heap.size] V w') => blk4 (h.blk HV.out.b1 (by have := HK2.out.g0; have := HK1.out.b0.lt; simp; omega)))
  clear HK5 HK4 c0 c1 c2 c3 c4 c5 c6 c7 c8 c9 c10 c11 c12 z0 z1 z2 z3 z4 z5 z6 z7 z8 z9 z10 z11 z12
  refine wp_region_mix_lit (by kernel_rfl) [(5, .call (.int .i64 y)), (9, .store (w.heap.size) 44 #[.int .i64 p, .int .i64 q, .int .u8 K.rd, .bool K.kp, .bool false, .bool K.og, .int .i64 K.a, .int .i64 K.b, .int .i64 K.c, .int .i64 K.d, .int .i64 K.l, .int .i64 K.r, .int .i64 K.s] (fun _ => #[.int .i64 p, .int .i64 (l + y), .int .u8 K.rd, .bool K.kp, .bool false, .bool K.og, .int .i64 K.a, .int .i64 K.b, .int .i64 K.c, .int .i64 K.d, .int .i64 K.l, .int .i64 K.r, .int .i64 K.s]))] (by kernel_rfl) (by kernel_rfl) (by kernel_rfl) (by rfl) (by simp [apartK] <;> omega) (by simp [startK]; exact HV.out.b0) (by simp [stabK]) (⟨fun _ => undef, by simp [okK]⟩) (fun β hβ => ?_)
  repeat (
    refine lex_val (v := ?_) rfl rfl (fun w' hf => ?_) ?_
    rotate_left
    · obtain ⟨b0, b1, b2, b3, _⟩ := HX.out w' hf.only; go_simp
      try rfl
    try simp only [Act.put, List.setIfInBounds_toArray, List.set_cons_zero, List.set_cons_succ])
  refine lex_call (f := 51) (args := ?_) rfl rfl (fun w' hf => ?_) (fun w' hf => ?_) ?_
  rotate_left
  · go_simp
    try rfl
  · exact HC.out w'
  try simp only [Act.put, List.setIfInBounds_toArray, List.set_cons_zero, List.set_cons_succ]
  repeat (
    refine lex_val (v := ?_) rfl rfl (fun w' hf => ?_) ?_
    rotate_left
    · go_simp
      try rfl
    try simp only [Act.put, List.setIfInBounds_toArray, List.set_cons_zero, List.set_cons_succ])
  refine lex_store rfl rfl (fun w' hf hB => ⟨_, ?_, Repl.set hB 1 (.int .i64 (l + y))⟩) ?_
  · obtain ⟨c0, c1, _⟩ := cur13 hB
    obtain ⟨z0, z1, _⟩ := fro13 hB
    go_simp
  try simp only [Act.put]
  refine lex_nil fun w5 he => ?_
  have hb9 : Blk w5 (w.heap.size) 44 #[.int .i64 p, .int .i64 (l + y), .int .u8 K.rd, .bool K.kp, .bool false, .bool K.og, .int .i64 K.a, .int .i64 K.b, .int .i64 K.c, .int .i64 K.d, .int .i64 K.l, .int .i64 K.r, .int .i64 K.s] := he.facts 9
  have HK6 := Lib.hid (Bs.mix HV.out he.only hb9)
  clear he hb9 HV HX hβ
  obtain ⟨c0, c1, c2, c3, c4, c5, c6, c7, c8, c9, c10, c11, c12⟩ := cur13 HK6.out.b0
  obtain ⟨d0, d1, d2, d3, d4, d5, d6, d7, d8, d9, d10, d11, d12⟩ := cur13 HK6.out.b2
  obtain ⟨z0, z1, z2, z3, z4, z5, z6, z7, z8, z9, z10, z11, z12⟩ := fro13 HK6.out.b2
  have HK7 := HK6.out.sw2.p0 (.int .i64 p) (.int .i64 (l + y)) (.int .u8 K.rd) (.bool K.kp) (.bool false) (.bool K.og) (.int .i64 K.a) (.int .i64 K.b) (.int .i64 K.c) (.int .i64 K.d) (.int .i64 K.l) (.int .i64 K.r) (.int .i64 K.s)
  unfold put13 at HK7
  go_wp2_with fail
  obtain ⟨e0, e1, e2, e3, e4, e5, e6, e7, e8, e9, e10, e11, e12⟩ := cur13 HK7.b0
  exact bodyPost_ret (v := .agg #[.int .i64 p, .int .i64 (l + y), .int .u8 K.rd, .bool K.kp, .bool false, .bool K.og, .int .i64 K.a, .int .i64 K.b, .int .i64 K.c, .int .i64 K.d, .int .i64 K.l, .int .i64 K.r, .int .i64 K.s]) (by simp [results, Try.results34, go_sem, e0, e1, e2, e3, e4, e5, e6, e7, e8, e9, e10, e11, e12]) rfl ⟨rfl, HK7.bel⟩
set_option maxRecDepth 100000 in
set_option maxHeartbeats 8000000 in
theorem to_any {f : Fr} {H W it il ib ir : Int} (h : FrOk f H W it il ib ir) (r c : Int) (wp : Bool) (K : CK) (n m : Int) (w : World) : Calls Try.prog 32 #[uV r c wp K, fV f, .int .i64 n, .int .i64 m] w fun e w' => e = .returned (uV (lineP n (pick K.og it 0) (pick K.og ib H)) (lineP m (pick K.og il 0) (pick K.og ir W)) false K) ∧ Below w.heap.size w w' := by
  have HR := Lib.hid (fun V => toRow_any h r c wp K n V)
  have hp := pick_in h K.og
  have HC := Lib.hid (fun V => toCol_any h (lineP n (pick K.og it 0) (pick K.og ib H)) (clipP c (pick K.og il 0) (pick K.og ir W - 1)) false K m V)
  have hx := lineP_in n (pick K.og it 0) (pick K.og ib H) (by omega)
  rw [show clipP (lineP n (pick K.og it 0) (pick K.og ib H)) (pick K.og it 0) (pick K.og ib H - 1) = lineP n (pick K.og it 0) (pick K.og ib H) from by generalize lineP n (pick K.og it 0) (pick K.og ib H) = z at *; unfold clipP; omega] at HC
  have HK := Lib.hid (Bs.start3 w 44 35 44 (uC r c wp K) (fC f) zU)
  generalize lineP n (pick K.og it 0) (pick K.og ib H) = x at *
  generalize lineP m (pick K.og il 0) (pick K.og ir W) = y at *
  generalize clipP c (pick K.og il 0) (pick K.og ir W - 1) = q at *
  clear h hp hx
  unfold uV fV at *
  go_enter Try.func32, Try.ntmps32
  go_wp2_with fail
  refine world_gen (fun V => Bs w [(w.heap.size + 1 + 1, 44, zU), (w.heap.size + 1, 35, fC f), (w.heap.size, 44, uC r c wp K)] V) HK.out ?_
  intro V HV
  replace HV := Lib.hid HV
  have HX := Lib.hid (fun w' (h : Only [w.heap.size + 1 + 1] V w') => And.intro (fra8 (h.blk HV.out.b1 (by simp))) (cur13 (h.blk HV.out.b2 (by simp; omega))))
  clear HK
  refine wp_region_mix_lit (by kernel_rfl) [(3, .call (.agg #[.int .i64 x, .int .i64 q, .int .u8 K.rd, .bool K.kp, .bool false, .bool K.og, .int .i64 K.a, .int .i64 K.b, .int .i64 K.c, .int .i64 K.d, .int .i64 K.l, .int .i64 K.r, .int .i64 K.s])), (6, .call (.agg #[.int .i64 x, .int .i64 y, .int .u8 K.rd, .bool K.kp, .bool false, .bool K.og, .int .i64 K.a, .int .i64 K.b, .int .i64 K.c, .int .i64 K.d, .int .i64 K.l, .int .i64 K.r, .int .i64 K.s])), (7, .store (w.heap.size + 1 + 1) 44 zU (fun _ => #[.int .i64 x, .int .i64 y, .int .u8 K.rd, .bool K.kp, .bool false, .bool K.og, .int .i64 K.a, .int .i64 K.b, .int .i64 K.c, .int .i64 K.d, .int .i64 K.l, .int .i64 K.r, .int .i64 K.s]))] (by kernel_rfl) (by kernel_rfl) (by kernel_rfl) (by rfl) (by simp [apartK] <;> omega) (by simp [startK]; exact HV.out.b0) (by simp [stabK]) (⟨fun _ => undef, by simp [okK]⟩) (fun β hβ => ?_)
  repeat (
    refine lex_val (v := ?_) rfl rfl (fun w' hf => ?_) ?_
    rotate_left
    · obtain ⟨⟨a0, a1, a2, a3, a4, a5, a6, a7⟩, c0, c1, c2, c3, c4, c5, c6, c7, c8, c9, c10, c11, c12⟩ := HX.out w' hf.only; go_simp
      try rfl
    try simp only [Act.put, List.setIfInBounds_toArray, List.set_cons_zero, List.set_cons_succ])
  refine lex_call (f := 33) (args := ?_) rfl rfl (fun w' hf => ?_) (fun w' hf => ?_) ?_
  rotate_left
  · go_simp
    try rfl
  · exact HR.out w'
  try simp only [Act.put, List.setIfInBounds_toArray, List.set_cons_zero, List.set_cons_succ]
  repeat (
    refine lex_val (v := ?_) rfl rfl (fun w' hf => ?_) ?_
    rotate_left
    · obtain ⟨⟨a0, a1, a2, a3, a4, a5, a6, a7⟩, c0, c1, c2, c3, c4, c5, c6, c7, c8, c9, c10, c11, c12⟩ := HX.out w' hf.only; go_simp
      try rfl
    try simp only [Act.put, List.setIfInBounds_toArray, List.set_cons_zero, List.set_cons_succ])
  refine lex_call (f := 34) (args := ?_) rfl rfl (fun w' hf => ?_) (fun w' hf => ?_) ?_
  rotate_left
  · go_simp
    try rfl
  · exact HC.out w'
  try simp only [Act.put, List.setIfInBounds_toArray, List.set_cons_zero, List.set_cons_succ]
  refine lex_store rfl rfl (fun w' hf hB => ⟨_, ?_, put13_repl hB (.int .i64 x) (.int .i64 y) (.int .u8 K.rd) (.bool K.kp) (.bool false) (.bool K.og) (.int .i64 K.a) (.int .i64 K.b) (.int .i64 K.c) (.int .i64 K.d) (.int .i64 K.l) (.int .i64 K.r) (.int .i64 K.s)⟩) ?_
  · obtain ⟨z0, z1, z2, z3, z4, z5, z6, z7, z8, z9, z10, z11, z12⟩ := fro13 hB
    obtain ⟨d0, d1, d2, d3, d4, d5, d6, d7, d8, d9, d10, d11, d12⟩ := cur13 hB
    unfold put13
    go_simp
  try simp only [Act.put]
  refine lex_nil fun w1 he => ?_
  have hb9 : Blk w1 (w.heap.size + 1 + 1) 44 #[.int .i64 x, .int .i64 y, .int .u8 K.rd, .bool K.kp, .bool false, .bool K.og, .int .i64 K.a, .int .i64 K.b, .int .i64 K.c, .int .i64 K.d, .int .i64 K.l, .int .i64 K.r, .int .i64 K.s] := he.facts 7
  have HK1 := Lib.hid (Bs.mix HV.out he.only hb9)
  clear he hb9 HV HX hβ
  obtain ⟨e0, e1, e2, e3, e4, e5, e6, e7, e8, e9, e10, e11, e12⟩ := cur13 HK1.out.b0
  go_wp2_with fail
  exact bodyPost_ret (v := .agg #[.int .i64 x, .int .i64 y, .int .u8 K.rd, .bool K.kp, .bool false, .bool K.og, .int .i64 K.a, .int .i64 K.b, .int .i64 K.c, .int .i64 K.d, .int .i64 K.l, .int .i64 K.r, .int .i64 K.s]) (by simp [results, Try.results32, go_sem, e0, e1, e2, e3, e4, e5, e6, e7, e8, e9, e10, e11, e12]) rfl ⟨rfl, HK1.out.bel⟩
def retC (og : Bool) (q il : Int) : Int := if og = true ∨ il ≤ q then il else 0
set_option maxRecDepth 100000 in
set_option maxHeartbeats 8000000 in
theorem return_any {f : Fr} {H W it il ib ir : Int} (h : FrOk f H W it il ib ir) (r c : Int) (wp : Bool) (K : CK) (w : World) : Calls Try.prog 31 #[uV r c wp K, fV f] w fun e w' => e = .returned (uV (clipP r 0 (H - 1)) (retC K.og (clipP c 0 (W - 1)) il) false K) ∧ Below w.heap.size w w' := by
  have HWh := Lib.hid (fun V => fWhole_any h V)
  have HI := Lib.hid (fun V => fInner_any h V)
  have hs := h.hH; have hs2 := h.hW
  have HM := Lib.hid (fun V => moving_any r c wp K 0 0 H W (by unfold Sm; omega) (by unfold Sm; omega) (by unfold Sm; omega) (by unfold Sm; omega) (by omega) (by omega) V)
  generalize clipP r 0 (H - 1) = p at *
  generalize clipP c 0 (W - 1) = q at *
  have HK := Lib.hid (Bs.start3 w 44 35 44 (uC r c wp K) (fC f) zU)
  have hv : (K.og = true ∧ retC K.og q il = il) ∨ (K.og = false ∧ il ≤ q ∧ retC K.og q il = il) ∨ (K.og = false ∧ decide (il ≤ q) = false ∧ retC K.og q il = 0) := by
    unfold retC
    by_cases g1 : K.og = true
    · exact .inl ⟨g1, if_pos (.inl g1)⟩
    · by_cases g2 : il ≤ q
      · exact .inr (.inl ⟨by simpa using g1, g2, if_pos (.inr g2)⟩)
      · exact .inr (.inr ⟨by simpa using g1, by simpa using g2, if_neg (by rintro (h | h) <;> contradiction)⟩)
  generalize retC K.og q il = x at *
  clear h hs hs2
  unfold uV fV bV uC at *
  generalize K.og = og at *
  go_enter Try.func31, Try.ntmps31
  go_wp2_with fail
  refine world_gen (fun V => Bs w [(w.heap.size + 1 + 1, 44, zU), (w.heap.size + 1, 35, fC f), (w.heap.size, 44, #[.int .i64 r, .int .i64 c, .int .u8 K.rd, .bool K.kp, .bool wp, .bool og, .int .i64 K.a, .int .i64 K.b, .int .i64 K.c, .int .i64 K.d, .int .i64 K.l, .int .i64 K.r, .int .i64 K.s])] V) HK.out ?_
  intro V HV
  replace HV := Lib.hid HV
  have HX := Lib.hid (fun w' (h : Only [] V w') => fra8 (h.blk HV.out.b1 (by simp)))
  clear HK
  refine wp_region_mix_lit (by kernel_rfl) [(1, .call (.agg #[.int .i64 0, .int .i64 0, .int .i64 H, .int .i64 W])), (3, .call (.agg #[.int .i64 it, .int .i64 il, .int .i64 ib, .int .i64 ir])), (4, .alloc 6 29 #[.int .i64 0, .int .i64 0, .int .i64 0, .int .i64 0] (fun _ => #[.int .i64 0, .int .i64 0, .int .i64 H, .int .i64 W])), (5, .alloc 7 29 #[.int .i64 0, .int .i64 0, .int .i64 0, .int .i64 0] (fun _ => #[.int .i64 it, .int .i64 il, .int .i64 ib, .int .i64 ir])), (6, .init 4), (7, .init 5)] (by kernel_rfl) (by kernel_rfl) (by kernel_rfl) (by rfl) (by simp [apartK] <;> omega) (by simp [startK]) (by simp [stabK]) (⟨fun _ => .pointer (some ⟨V.heap.size, 0, none⟩), by simp [okK]⟩) (fun β hβ => ?_)
  repeat (
    refine lex_val (v := ?_) rfl rfl (fun w' hf => ?_) ?_
    rotate_left
    · obtain ⟨a0, a1, a2, a3, a4, a5, a6, a7⟩ := HX.out w' hf.only; go_simp
      try rfl
    try simp only [Act.put, List.setIfInBounds_toArray, List.set_cons_zero, List.set_cons_succ])
  refine lex_call (f := 11) (args := ?_) rfl rfl (fun w' hf => ?_) (fun w' hf => ?_) ?_
  rotate_left
  · go_simp
    try rfl
  · exact HWh.out w'
  try simp only [Act.put, List.setIfInBounds_toArray, List.set_cons_zero, List.set_cons_succ]
  repeat (
    refine lex_val (v := ?_) rfl rfl (fun w' hf => ?_) ?_
    rotate_left
    · obtain ⟨a0, a1, a2, a3, a4, a5, a6, a7⟩ := HX.out w' hf.only; go_simp
      try rfl
    try simp only [Act.put, List.setIfInBounds_toArray, List.set_cons_zero, List.set_cons_succ])
  refine lex_call (f := 13) (args := ?_) rfl rfl (fun w' hf => ?_) (fun w' hf => ?_) ?_
  rotate_left
  · go_simp
    try rfl
  · exact HI.out w'
  try simp only [Act.put, List.setIfInBounds_toArray, List.set_cons_zero, List.set_cons_succ]
  refine lex_alloc rfl rfl (fun w' => ?_) ?_
  · go_simp
  try simp only [Act.put, List.setIfInBounds_toArray, List.set_cons_zero, List.set_cons_succ]
  refine lex_alloc rfl rfl (fun w' => ?_) ?_
  · go_simp
  try simp only [Act.put, List.setIfInBounds_toArray, List.set_cons_zero, List.set_cons_succ]
  refine lex_init rfl rfl rfl (fun b w' hb hf hB => ⟨_, ?_, repl4 hB _ _ _ _⟩) ?_
  · have gB := blk4 hB
    go_simp
  try simp only [Act.put]
  refine lex_init rfl rfl rfl (fun b w' hb hf hB => ⟨_, ?_, repl4 hB _ _ _ _⟩) ?_
  · have gB := blk4 hB
    go_simp
  try simp only [Act.put]
  refine lex_nil fun w1 he => ?_
  obtain ⟨g1, hg1, hge1, hB1⟩ := he.facts 4
  obtain ⟨g2, hg2, hge2, hB2⟩ := he.facts 5
  have hne : g1 ≠ g2 := fun e => (show β 4 ≠ β 5 from he.ne 4 5 (by decide)) (by rw [hg1, hg2, e])
  have HK1 := Lib.hid (Bs.made2 HV.out he.only hge1 hB1 hge2 hB2 hne).sw4
  rw [hg1, hg2]
  clear hg1 hg2 he hβ hge1 hge2 hB1 hB2 HX HV
  obtain ⟨c0, c1, c2, c3, c4, c5, c6, c7, c8, c9, c10, c11, c12⟩ := cur13 HK1.out.b0
  obtain ⟨b0, b1, b2, b3, _⟩ := blk4 HK1.out.b1
  go_wp2_with fail
  refine (HM.out _).mono ?_
  rintro e w2 ⟨rfl, hb2⟩
  have HK2 := Lib.hid (HK1.out.next hb2)
  clear hb2 b0 b1 b2 b3 c0 c1 c2 c3 c4 c5 c6 c7 c8 c9 c10 c11 c12 HK1
  obtain ⟨c0, c1, c2, c3, c4, c5, c6, c7, c8, c9, c10, c11, c12⟩ := cur13 HK2.out.b0
  obtain ⟨z0, z1, z2, z3, z4, z5, z6, z7, z8, z9, z10, z11, z12⟩ := fro13 HK2.out.b0
  have HK3 := HK2.out.p0 (.int .i64 p) (.int .i64 q) (.int .u8 K.rd) (.bool K.kp) (.bool false) (.bool og) (.int .i64 K.a) (.int .i64 K.b) (.int .i64 K.c) (.int .i64 K.d) (.int .i64 K.l) (.int .i64 K.r) (.int .i64 K.s)
  unfold put13 at HK3
  replace HK3 := Lib.hid HK3
  go_upto_region 3 with fail
  refine world_gen (fun V => Bs w [(w.heap.size, 44, #[.int .i64 p, .int .i64 q, .int .u8 K.rd, .bool K.kp, .bool false, .bool og, .int .i64 K.a, .int .i64 K.b, .int .i64 K.c, .int .i64 K.d, .int .i64 K.l, .int .i64 K.r, .int .i64 K.s]), (g1, 29, #[.int .i64 0, .int .i64 0, .int .i64 H, .int .i64 W]), (g2, 29, #[.int .i64 it, .int .i64 il, .int .i64 ib, .int .i64 ir]), (w.heap.size + 1 + 1, 44, zU), (w.heap.size + 1, 35, fC f)] V) HK3.out ?_
  intro V3 HV3
  replace HV3 := Lib.hid HV3
  clear HK3 HK2 c0 c1 c2 c3 c4 c5 c6 c7 c8 c9 c10 c11 c12 z0 z1 z2 z3 z4 z5 z6 z7 z8 z9 z10 z11 z12
  obtain ⟨c0, c1, c2, c3, c4, c5, c6, c7, c8, c9, c10, c11, c12⟩ := cur13 HV3.out.b0
  obtain ⟨z0, z1, z2, z3, z4, z5, z6, z7, z8, z9, z10, z11, z12⟩ := fro13 HV3.out.b0
  obtain ⟨b0, b1, b2, b3, _⟩ := blk4 HV3.out.b1
  obtain ⟨i0, i1, i2, i3, _⟩ := blk4 HV3.out.b2
  have HK4 := Lib.hid (fun v => HV3.out.s0 1 (.int .i64 v))
  obtain ⟨d0, d1, d2, d3, d4, d5, d6, d7, d8, d9, d10, d11, d12⟩ := cur13 HV3.out.b3
  obtain ⟨y0, y1, y2, y3, y4, y5, y6, y7, y8, y9, y10, y11, y12⟩ := fro13 HV3.out.b3
  rcases hv with ⟨rfl, rfl⟩ | ⟨rfl, hq, rfl⟩ | ⟨rfl, hq, rfl⟩
  · skip
    go_upto_region 6 with fail
    repeat go_step
    have HK5 := (HK4.out x).sw3.p0 (.int .i64 p) (.int .i64 x) (.int .u8 K.rd) (.bool K.kp) (.bool false) (.bool true) (.int .i64 K.a) (.int .i64 K.b) (.int .i64 K.c) (.int .i64 K.d) (.int .i64 K.l) (.int .i64 K.r) (.int .i64 K.s)
    unfold put13 at HK5
    obtain ⟨e0, e1, e2, e3, e4, e5, e6, e7, e8, e9, e10, e11, e12⟩ := cur13 HK5.b0
    exact bodyPost_ret (v := .agg #[.int .i64 p, .int .i64 x, .int .u8 K.rd, .bool K.kp, .bool false, .bool true, .int .i64 K.a, .int .i64 K.b, .int .i64 K.c, .int .i64 K.d, .int .i64 K.l, .int .i64 K.r, .int .i64 K.s]) (by simp [results, Try.results31, go_sem, e0, e1, e2, e3, e4, e5, e6, e7, e8, e9, e10, e11, e12]) rfl ⟨rfl, HK5.bel⟩
  · skip
    go_upto_region 6 with fail
    repeat go_step
    have HK5 := (HK4.out x).sw3.p0 (.int .i64 p) (.int .i64 x) (.int .u8 K.rd) (.bool K.kp) (.bool false) (.bool false) (.int .i64 K.a) (.int .i64 K.b) (.int .i64 K.c) (.int .i64 K.d) (.int .i64 K.l) (.int .i64 K.r) (.int .i64 K.s)
    unfold put13 at HK5
    obtain ⟨e0, e1, e2, e3, e4, e5, e6, e7, e8, e9, e10, e11, e12⟩ := cur13 HK5.b0
    exact bodyPost_ret (v := .agg #[.int .i64 p, .int .i64 x, .int .u8 K.rd, .bool K.kp, .bool false, .bool false, .int .i64 K.a, .int .i64 K.b, .int .i64 K.c, .int .i64 K.d, .int .i64 K.l, .int .i64 K.r, .int .i64 K.s]) (by simp [results, Try.results31, go_sem, e0, e1, e2, e3, e4, e5, e6, e7, e8, e9, e10, e11, e12]) rfl ⟨rfl, HK5.bel⟩
  · skip
    go_upto_region 6 with fail
    repeat go_step
    have HK5 := (HK4.out 0).sw3.p0 (.int .i64 p) (.int .i64 0) (.int .u8 K.rd) (.bool K.kp) (.bool false) (.bool false) (.int .i64 K.a) (.int .i64 K.b) (.int .i64 K.c) (.int .i64 K.d) (.int .i64 K.l) (.int .i64 K.r) (.int .i64 K.s)
    unfold put13 at HK5
    obtain ⟨e0, e1, e2, e3, e4, e5, e6, e7, e8, e9, e10, e11, e12⟩ := cur13 HK5.b0
    exact bodyPost_ret (v := .agg #[.int .i64 p, .int .i64 0, .int .u8 K.rd, .bool K.kp, .bool false, .bool false, .int .i64 K.a, .int .i64 K.b, .int .i64 K.c, .int .i64 K.d, .int .i64 K.l, .int .i64 K.r, .int .i64 K.s]) (by simp [results, Try.results31, go_sem, e0, e1, e2, e3, e4, e5, e6, e7, e8, e9, e10, e11, e12]) rfl ⟨rfl, HK5.bel⟩
end Go.Proofs.Ytilfhilebdkmkaa

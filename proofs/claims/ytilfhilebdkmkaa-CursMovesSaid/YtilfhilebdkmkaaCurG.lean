/-
  Cursors on the page, within the margins.
-/
import Derived.Test.YtilfhilebdkmkaaCurF
namespace Go.Proofs.Ytilfhilebdkmkaa
open Go Go.RowKit

theorem near_clipC (n a b : Int) (h : a < b) : nearP n a b = clipP n a (b - 1) := by
  unfold nearP clipP
  split
  · omega
  · split <;> omega
set_option maxRecDepth 100000 in
set_option maxHeartbeats 8000000 in
theorem fInside_any {f : Fr} {H W it il ib ir : Int} (h : FrOk f H W it il ib ir) (r c : Int) (wp : Bool) (K : CK) (w : World) : Calls Try.prog 17 #[uV r c wp K, fV f] w fun e w' => e = .returned (.bool (insB H W it il ib ir r c)) ∧ Below w.heap.size w w' := by
  have HWh := Lib.hid (fun V => fWhole_any h V)
  have HI := Lib.hid (fun V => fInner_any h V)
  have HK := Lib.hid (Bs.start2' w 44 35 (uC r c wp K) (fC f))
  have hs := h.hH; have hs2 := h.hW
  have g1 : Sm 0 := by unfold Sm; omega
  have g2 : Sm H := by unfold Sm; omega
  have g3 : Sm W := by unfold Sm; omega
  have HC := Lib.hid (fun V => bclamp_any 0 0 H W r c g1 g1 g2 g3 V)
  rw [show clampT 0 0 H W r c = (clipP r 0 (H - 1), clipP c 0 (W - 1)) from if_neg (by unfold bEm emB; simp; omega)] at HC
  simp only at HC
  unfold insB
  generalize clipP r 0 (H - 1) = p at *
  generalize clipP c 0 (W - 1) = q at *
  have HN := Lib.hid (fun V => in_any it il ib ir p q V)
  generalize inB it il ib ir p q = res at *
  clear h hs hs2 g1 g2 g3
  unfold uV fV bV pV at *
  go_enter Try.func17, Try.ntmps17
  go_wp2_with fail
  refine world_gen (fun V => Bs w [(w.heap.size, 44, uC r c wp K), (w.heap.size + 1, 35, fC f)] V) HK.out ?_
  intro V HV
  replace HV := Lib.hid HV
  have HX := Lib.hid (fun w' (h : Only [] V w') => And.intro (fra8 (h.blk HV.out.b1 (by simp))) (cur13 (h.blk HV.out.b0 (by simp))))
  clear HK
  refine wp_region_mix_lit (by kernel_rfl) [(1, .call (.agg #[.int .i64 it, .int .i64 il, .int .i64 ib, .int .i64 ir])), (3, .call (.agg #[.int .i64 0, .int .i64 0, .int .i64 H, .int .i64 W])), (6, .call (.agg #[.int .i64 p, .int .i64 q])), (7, .call (.bool res))] (by kernel_rfl) (by kernel_rfl) (by kernel_rfl) (by rfl) (by simp [apartK] <;> omega) (by simp [startK]) (by simp [stabK]) (⟨fun _ => undef, by simp [okK]⟩) (fun β hβ => ?_)
  repeat (
    refine lex_val (v := ?_) rfl rfl (fun w' hf => ?_) ?_
    rotate_left
    · obtain ⟨⟨a0, a1, a2, a3, a4, a5, a6, a7⟩, c0, c1, _⟩ := HX.out w' hf.only; go_simp
      try rfl
    try simp only [Act.put, List.setIfInBounds_toArray, List.set_cons_zero, List.set_cons_succ])
  refine lex_call (f := 13) (args := ?_) rfl rfl (fun w' hf => ?_) (fun w' hf => ?_) ?_
  rotate_left
  · go_simp
    try rfl
  · exact HI.out w'
  try simp only [Act.put, List.setIfInBounds_toArray, List.set_cons_zero, List.set_cons_succ]
  repeat (
    refine lex_val (v := ?_) rfl rfl (fun w' hf => ?_) ?_
    rotate_left
    · obtain ⟨⟨a0, a1, a2, a3, a4, a5, a6, a7⟩, c0, c1, _⟩ := HX.out w' hf.only; go_simp
      try rfl
    try simp only [Act.put, List.setIfInBounds_toArray, List.set_cons_zero, List.set_cons_succ])
  refine lex_call (f := 11) (args := ?_) rfl rfl (fun w' hf => ?_) (fun w' hf => ?_) ?_
  rotate_left
  · go_simp
    try rfl
  · exact HWh.out w'
  try simp only [Act.put, List.setIfInBounds_toArray, List.set_cons_zero, List.set_cons_succ]
  repeat (
    refine lex_val (v := ?_) rfl rfl (fun w' hf => ?_) ?_
    rotate_left
    · obtain ⟨⟨a0, a1, a2, a3, a4, a5, a6, a7⟩, c0, c1, _⟩ := HX.out w' hf.only; go_simp
      try rfl
    try simp only [Act.put, List.setIfInBounds_toArray, List.set_cons_zero, List.set_cons_succ])
  refine lex_call (f := 43) (args := ?_) rfl rfl (fun w' hf => ?_) (fun w' hf => ?_) ?_
  rotate_left
  · go_simp
    try rfl
  · exact HC.out w'
  try simp only [Act.put, List.setIfInBounds_toArray, List.set_cons_zero, List.set_cons_succ]
  refine lex_call (f := 42) (args := ?_) rfl rfl (fun w' hf => ?_) (fun w' hf => ?_) ?_
  rotate_left
  · go_simp
    try rfl
  · exact HN.out w'
  try simp only [Act.put, List.setIfInBounds_toArray, List.set_cons_zero, List.set_cons_succ]
  repeat (
    refine lex_val (v := ?_) rfl rfl (fun w' hf => ?_) ?_
    rotate_left
    · go_simp
      try rfl
    try simp only [Act.put, List.setIfInBounds_toArray, List.set_cons_zero, List.set_cons_succ])
  refine lex_nil fun w1 he => ?_
  have HK1 := Lib.hid (HV.out.next he.only.below0)
  clear he
  go_wp2_with fail
  go_ret
  exact ⟨rfl, HK1.out.bel⟩
set_option maxRecDepth 100000 in
set_option maxHeartbeats 8000000 in
theorem on_any {f : Fr} {H W it il ib ir : Int} (h : FrOk f H W it il ib ir) (r c : Int) (wp : Bool) (K : CK) (w : World) : Calls Try.prog 23 #[uV r c wp K, fV f] w fun e w' => e = .returned (uV (clipP r 0 (H - 1)) (clipP c 0 (W - 1)) false K) ∧ Below w.heap.size w w' := by
  have HWh := Lib.hid (fun V => refWholeC_any h V)
  have HK := Lib.hid (Bs.start3 w 27 31 27 (uC r c wp K) (fC f) zU)
  have hs := h.hH; have hs2 := h.hW
  have g1 : Sm 0 := by unfold Sm; omega
  have g2 : Sm H := by unfold Sm; omega
  have g3 : Sm W := by unfold Sm; omega
  have HC := Lib.hid (fun V => refBClamp_any 0 0 H W r c g1 g1 g2 g3 V)
  rw [show refClampT 0 0 H W r c = (clipP r 0 (H - 1), clipP c 0 (W - 1)) from by
    unfold refClampT
    rw [if_neg (by unfold bEm emB; simp; omega), near_clipC _ _ _ (by omega), near_clipC _ _ _ (by omega)]] at HC
  simp only at HC
  generalize clipP r 0 (H - 1) = p at *
  generalize clipP c 0 (W - 1) = q at *
  have HP := Lib.hid (fun V => put_any r c wp K p q V)
  clear h hs hs2 g1 g2 g3
  unfold uV fV bV pV at *
  go_enter Try.func23, Try.ntmps23
  go_wp2_with fail
  refine world_gen (fun V => Bs w [(w.heap.size + 1 + 1, 27, zU), (w.heap.size + 1, 31, fC f), (w.heap.size, 27, uC r c wp K)] V) HK.out ?_
  intro V HV
  replace HV := Lib.hid HV
  have HX := Lib.hid (fun w' (h : Only [w.heap.size + 1 + 1] V w') => And.intro (fra8 (h.blk HV.out.b1 (by simp))) (cur13 (h.blk HV.out.b2 (by simp; omega))))
  clear HK
  refine wp_region_mix_lit (by kernel_rfl) [(2, .call (.agg #[.int .i64 0, .int .i64 0, .int .i64 H, .int .i64 W])), (8, .call (.agg #[.int .i64 p, .int .i64 q])), (9, .call (.agg #[.int .i64 p, .int .i64 q, .int .u8 K.rd, .bool K.kp, .bool false, .bool K.og, .int .i64 K.a, .int .i64 K.b, .int .i64 K.c, .int .i64 K.d, .int .i64 K.l, .int .i64 K.r, .int .i64 K.s])), (10, .store (w.heap.size + 1 + 1) 27 zU (fun _ => #[.int .i64 p, .int .i64 q, .int .u8 K.rd, .bool K.kp, .bool false, .bool K.og, .int .i64 K.a, .int .i64 K.b, .int .i64 K.c, .int .i64 K.d, .int .i64 K.l, .int .i64 K.r, .int .i64 K.s]))] (by kernel_rfl) (by kernel_rfl) (by kernel_rfl) (by rfl) (by simp [apartK] <;> omega) (by simp [startK]; exact HV.out.b0) (by simp [stabK]) (⟨fun _ => undef, by simp [okK]⟩) (fun β hβ => ?_)
  repeat (
    refine lex_val (v := ?_) rfl rfl (fun w' hf => ?_) ?_
    rotate_left
    · obtain ⟨⟨a0, a1, a2, a3, a4, a5, a6, a7⟩, c0, c1, c2, c3, c4, c5, c6, c7, c8, c9, c10, c11, c12⟩ := HX.out w' hf.only; go_simp
      try rfl
    try simp only [Act.put, List.setIfInBounds_toArray, List.set_cons_zero, List.set_cons_succ])
  refine lex_call (f := 12) (args := ?_) rfl rfl (fun w' hf => ?_) (fun w' hf => ?_) ?_
  rotate_left
  · go_simp
    try rfl
  · exact HWh.out w'
  try simp only [Act.put, List.setIfInBounds_toArray, List.set_cons_zero, List.set_cons_succ]
  repeat (
    refine lex_val (v := ?_) rfl rfl (fun w' hf => ?_) ?_
    rotate_left
    · obtain ⟨⟨a0, a1, a2, a3, a4, a5, a6, a7⟩, c0, c1, c2, c3, c4, c5, c6, c7, c8, c9, c10, c11, c12⟩ := HX.out w' hf.only; go_simp
      try rfl
    try simp only [Act.put, List.setIfInBounds_toArray, List.set_cons_zero, List.set_cons_succ])
  refine lex_call (f := 35) (args := ?_) rfl rfl (fun w' hf => ?_) (fun w' hf => ?_) ?_
  rotate_left
  · go_simp
    try rfl
  · exact HC.out w'
  try simp only [Act.put, List.setIfInBounds_toArray, List.set_cons_zero, List.set_cons_succ]
  refine lex_call (f := 50) (args := ?_) rfl rfl (fun w' hf => ?_) (fun w' hf => ?_) ?_
  rotate_left
  · go_simp
    try rfl
  · exact HP.out w'
  try simp only [Act.put, List.setIfInBounds_toArray, List.set_cons_zero, List.set_cons_succ]
  refine lex_store rfl rfl (fun w' hf hB => ⟨_, ?_, put13_repl hB (.int .i64 p) (.int .i64 q) (.int .u8 K.rd) (.bool K.kp) (.bool false) (.bool K.og) (.int .i64 K.a) (.int .i64 K.b) (.int .i64 K.c) (.int .i64 K.d) (.int .i64 K.l) (.int .i64 K.r) (.int .i64 K.s)⟩) ?_
  · obtain ⟨z0, z1, z2, z3, z4, z5, z6, z7, z8, z9, z10, z11, z12⟩ := fro13 hB
    obtain ⟨d0, d1, d2, d3, d4, d5, d6, d7, d8, d9, d10, d11, d12⟩ := cur13 hB
    unfold put13
    go_simp
  try simp only [Act.put]
  refine lex_nil fun w1 he => ?_
  have hb9 : Blk w1 (w.heap.size + 1 + 1) 27 #[.int .i64 p, .int .i64 q, .int .u8 K.rd, .bool K.kp, .bool false, .bool K.og, .int .i64 K.a, .int .i64 K.b, .int .i64 K.c, .int .i64 K.d, .int .i64 K.l, .int .i64 K.r, .int .i64 K.s] := he.facts 10
  have HK1 := Lib.hid (Bs.mix HV.out he.only hb9)
  clear he hb9 HV HX hβ
  obtain ⟨e0, e1, e2, e3, e4, e5, e6, e7, e8, e9, e10, e11, e12⟩ := cur13 HK1.out.b0
  go_wp2_with fail
  exact bodyPost_ret (v := .agg #[.int .i64 p, .int .i64 q, .int .u8 K.rd, .bool K.kp, .bool false, .bool K.og, .int .i64 K.a, .int .i64 K.b, .int .i64 K.c, .int .i64 K.d, .int .i64 K.l, .int .i64 K.r, .int .i64 K.s]) (by simp [results, Try.results23, go_sem, e0, e1, e2, e3, e4, e5, e6, e7, e8, e9, e10, e11, e12]) rfl ⟨rfl, HK1.out.bel⟩
set_option maxRecDepth 100000 in
set_option maxHeartbeats 8000000 in
theorem refInside_any {f : Fr} {H W it il ib ir : Int} (h : FrOk f H W it il ib ir) (r c : Int) (wp : Bool) (K : CK) (w : World) : Calls Try.prog 18 #[uV r c wp K, fV f] w fun e w' => e = .returned (.bool (insB H W it il ib ir r c)) ∧ Below w.heap.size w w' := by
  have HO := Lib.hid (fun V => on_any h r c wp K V)
  have HI := Lib.hid (fun V => refInnerC_any h V)
  have HK := Lib.hid (Bs.start2' w 27 31 (uC r c wp K) (fC f))
  unfold insB
  generalize clipP r 0 (H - 1) = p at *
  generalize clipP c 0 (W - 1) = q at *
  have HN := Lib.hid (fun V => refIn_any it il ib ir p q V)
  generalize inB it il ib ir p q = res at *
  clear h
  unfold uV fV bV at *
  go_enter Try.func18, Try.ntmps18
  go_wp2_with fail
  refine (HO.out _).mono ?_
  rintro e w1 ⟨rfl, hb1⟩
  have HK1 := Lib.hid (HK.out.next hb1)
  clear hb1 HK
  obtain ⟨c0, c1, c2, c3, c4, c5, c6, c7, c8, c9, c10, c11, c12⟩ := cur13 HK1.out.b0
  obtain ⟨z0, z1, z2, z3, z4, z5, z6, z7, z8, z9, z10, z11, z12⟩ := fro13 HK1.out.b0
  have HK2 := HK1.out.p0 (.int .i64 p) (.int .i64 q) (.int .u8 K.rd) (.bool K.kp) (.bool false) (.bool K.og) (.int .i64 K.a) (.int .i64 K.b) (.int .i64 K.c) (.int .i64 K.d) (.int .i64 K.l) (.int .i64 K.r) (.int .i64 K.s)
  unfold put13 at HK2
  replace HK2 := Lib.hid HK2
  go_wp2_with fail
  refine world_gen (fun V => Bs w [(w.heap.size, 27, #[.int .i64 p, .int .i64 q, .int .u8 K.rd, .bool K.kp, .bool false, .bool K.og, .int .i64 K.a, .int .i64 K.b, .int .i64 K.c, .int .i64 K.d, .int .i64 K.l, .int .i64 K.r, .int .i64 K.s]), (w.heap.size + 1, 31, fC f)] V) HK2.out ?_
  intro V HV
  replace HV := Lib.hid HV
  have HX := Lib.hid (fun w' (h : Only [] V w') => And.intro (fra8 (h.blk HV.out.b1 (by simp))) (cur13 (h.blk HV.out.b0 (by simp))))
  clear HK2 HK1 c0 c1 c2 c3 c4 c5 c6 c7 c8 c9 c10 c11 c12 z0 z1 z2 z3 z4 z5 z6 z7 z8 z9 z10 z11 z12
  refine wp_region_mix_lit (by kernel_rfl) [(1, .call (.agg #[.int .i64 it, .int .i64 il, .int .i64 ib, .int .i64 ir])), (6, .call (.bool res))] (by kernel_rfl) (by kernel_rfl) (by kernel_rfl) (by rfl) (by simp [apartK] <;> omega) (by simp [startK]) (by simp [stabK]) (⟨fun _ => undef, by simp [okK]⟩) (fun β hβ => ?_)
  repeat (
    refine lex_val (v := ?_) rfl rfl (fun w' hf => ?_) ?_
    rotate_left
    · obtain ⟨⟨a0, a1, a2, a3, a4, a5, a6, a7⟩, c0, c1, _⟩ := HX.out w' hf.only; go_simp
      try rfl
    try simp only [Act.put, List.setIfInBounds_toArray, List.set_cons_zero, List.set_cons_succ])
  refine lex_call (f := 14) (args := ?_) rfl rfl (fun w' hf => ?_) (fun w' hf => ?_) ?_
  rotate_left
  · go_simp
    try rfl
  · exact HI.out w'
  try simp only [Act.put, List.setIfInBounds_toArray, List.set_cons_zero, List.set_cons_succ]
  repeat (
    refine lex_val (v := ?_) rfl rfl (fun w' hf => ?_) ?_
    rotate_left
    · obtain ⟨⟨a0, a1, a2, a3, a4, a5, a6, a7⟩, c0, c1, _⟩ := HX.out w' hf.only; go_simp
      try rfl
    try simp only [Act.put, List.setIfInBounds_toArray, List.set_cons_zero, List.set_cons_succ])
  refine lex_call (f := 24) (args := ?_) rfl rfl (fun w' hf => ?_) (fun w' hf => ?_) ?_
  rotate_left
  · go_simp
    try rfl
  · exact HN.out w'
  try simp only [Act.put, List.setIfInBounds_toArray, List.set_cons_zero, List.set_cons_succ]
  repeat (
    refine lex_val (v := ?_) rfl rfl (fun w' hf => ?_) ?_
    rotate_left
    · go_simp
      try rfl
    try simp only [Act.put, List.setIfInBounds_toArray, List.set_cons_zero, List.set_cons_succ])
  refine lex_nil fun w2 he => ?_
  have HK3 := Lib.hid (HV.out.next he.only.below0)
  clear he
  go_wp2_with fail
  go_ret
  exact ⟨rfl, HK3.out.bel⟩
end Go.Proofs.Ytilfhilebdkmkaa

/-
  Cursors: what is fixed of them all.
-/
import Derived.Test.YtilfhilebdkmkaaCurL
namespace Go.Proofs.Ytilfhilebdkmkaa
open Go Go.RowKit

def fixF : Fr := ⟨0, 0, 24, 80, 5, 0, 10, 80⟩
theorem fix_ok : FrOk fixF 24 80 5 0 10 80 := ⟨by decide, by decide, by omega, by omega, ⟨5, 0, 10, 80, by decide, .inr ⟨by decide, rfl, rfl, rfl, rfl⟩⟩, by omega, by omega⟩
theorem fld_pos (a b : Value) (W : World) : (Instr.field 41 (.agg #[a, b]) 0).run Try.prog W = .ok a W := by kernel_rfl
theorem fld_pos1 (a b : Value) (W : World) : (Instr.field 41 (.agg #[a, b]) 1).run Try.prog W = .ok b W := by kernel_rfl
theorem fld_cur (v0 v1 v2 v3 v4 v5 v6 v7 v8 v9 v10 v11 v12 : Value) (W : World) : (Instr.field 44 (.agg #[v0, v1, v2, v3, v4, v5, v6, v7, v8, v9, v10, v11, v12]) 0).run Try.prog W = .ok (.agg #[v0, v1]) W := by kernel_rfl
set_option maxRecDepth 100000 in
set_option maxHeartbeats 8000000 in
theorem awakeC_any (w : World) : Calls Try.prog 8 #[] w fun e w' => e = .returned (.bool true) ∧ Below w.heap.size w w' := by
  have HN : Hid (∀ V, Calls Try.prog 21 #[] V fun e w' => e = .returned (.agg #[.int .i64 0, .int .i64 0, .int .u8 0, .bool false, .bool false, .bool false, .int .i64 1, .int .i64 1, .int .i64 4, .int .i64 4, .int .i64 0, .int .i64 2, .int .i64 0]) ∧ Below V.heap.size V w') := Lib.hid (fun V => cursNew_any V)
  have HT : Hid (∀ V, Calls Try.prog 32 #[.agg #[.int .i64 0, .int .i64 0, .int .u8 0, .bool false, .bool false, .bool false, .int .i64 1, .int .i64 1, .int .i64 4, .int .i64 4, .int .i64 0, .int .i64 2, .int .i64 0], .agg #[.int .i64 0, .int .i64 0, .int .i64 24, .int .i64 80, .int .i64 5, .int .i64 0, .int .i64 10, .int .i64 80], .int .i64 7, .int .i64 3] V fun e w' => e = .returned (.agg #[.int .i64 7, .int .i64 3, .int .u8 0, .bool false, .bool false, .bool false, .int .i64 1, .int .i64 1, .int .i64 4, .int .i64 4, .int .i64 0, .int .i64 2, .int .i64 0]) ∧ Below V.heap.size V w') := Lib.hid (fun V => to_any fix_ok 0 0 false newK 7 3 V)
  have HU : Hid (∀ V, Calls Try.prog 27 #[.agg #[.int .i64 7, .int .i64 3, .int .u8 0, .bool false, .bool false, .bool false, .int .i64 1, .int .i64 1, .int .i64 4, .int .i64 4, .int .i64 0, .int .i64 2, .int .i64 0], .agg #[.int .i64 0, .int .i64 0, .int .i64 24, .int .i64 80, .int .i64 5, .int .i64 0, .int .i64 10, .int .i64 80], .int .i64 9] V fun e w' => e = .returned (.agg #[.int .i64 5, .int .i64 3, .int .u8 0, .bool false, .bool false, .bool false, .int .i64 1, .int .i64 1, .int .i64 4, .int .i64 4, .int .i64 0, .int .i64 2, .int .i64 0]) ∧ Below V.heap.size V w') := Lib.hid (fun V => up_any fix_ok 7 3 false newK 9 V)
  have HD : Hid (∀ V, Calls Try.prog 28 #[.agg #[.int .i64 7, .int .i64 3, .int .u8 0, .bool false, .bool false, .bool false, .int .i64 1, .int .i64 1, .int .i64 4, .int .i64 4, .int .i64 0, .int .i64 2, .int .i64 0], .agg #[.int .i64 0, .int .i64 0, .int .i64 24, .int .i64 80, .int .i64 5, .int .i64 0, .int .i64 10, .int .i64 80], .int .i64 9] V fun e w' => e = .returned (.agg #[.int .i64 9, .int .i64 3, .int .u8 0, .bool false, .bool false, .bool false, .int .i64 1, .int .i64 1, .int .i64 4, .int .i64 4, .int .i64 0, .int .i64 2, .int .i64 0]) ∧ Below V.heap.size V w') := Lib.hid (fun V => down_any fix_ok 7 3 false newK 9 V)
  have HR : Hid (∀ V, Calls Try.prog 31 #[.agg #[.int .i64 7, .int .i64 3, .int .u8 0, .bool false, .bool false, .bool false, .int .i64 1, .int .i64 1, .int .i64 4, .int .i64 4, .int .i64 0, .int .i64 2, .int .i64 0], .agg #[.int .i64 0, .int .i64 0, .int .i64 24, .int .i64 80, .int .i64 5, .int .i64 0, .int .i64 10, .int .i64 80]] V fun e w' => e = .returned (.agg #[.int .i64 7, .int .i64 0, .int .u8 0, .bool false, .bool false, .bool false, .int .i64 1, .int .i64 1, .int .i64 4, .int .i64 4, .int .i64 0, .int .i64 2, .int .i64 0]) ∧ Below V.heap.size V w') := Lib.hid (fun V => return_any fix_ok 7 3 false newK V)
  have HI : Hid (∀ V, Calls Try.prog 17 #[.agg #[.int .i64 7, .int .i64 3, .int .u8 0, .bool false, .bool false, .bool false, .int .i64 1, .int .i64 1, .int .i64 4, .int .i64 4, .int .i64 0, .int .i64 2, .int .i64 0], .agg #[.int .i64 0, .int .i64 0, .int .i64 24, .int .i64 80, .int .i64 5, .int .i64 0, .int .i64 10, .int .i64 80]] V fun e w' => e = .returned (.bool true) ∧ Below V.heap.size V w') := Lib.hid (fun V => fInside_any fix_ok 7 3 false newK V)
  have hp0 := fld_pos; have hp1 := fld_pos1; have hc0 := fld_cur
  go_enter Try.func8, Try.ntmps8
  go_upto_region 2 with fail
  refine world_gen (fun V => Bs w [(w.heap.size, 35, #[.int .i64 0, .int .i64 0, .int .i64 24, .int .i64 80, .int .i64 5, .int .i64 0, .int .i64 10, .int .i64 80])] V) ((Bs.nil w).alloc 35 #[.int .i64 0, .int .i64 0, .int .i64 24, .int .i64 80, .int .i64 5, .int .i64 0, .int .i64 10, .int .i64 80]) ?_
  intro V HV
  replace HV := Lib.hid HV
  have HX := Lib.hid (fun w' (h : Only [] V w') => fra8 (h.blk HV.out.b0 (by simp)))
  refine wp_region_mix_lit (by kernel_rfl) [(0, .call (.agg #[.int .i64 0, .int .i64 0, .int .u8 0, .bool false, .bool false, .bool false, .int .i64 1, .int .i64 1, .int .i64 4, .int .i64 4, .int .i64 0, .int .i64 2, .int .i64 0])), (2, .call (.agg #[.int .i64 7, .int .i64 3, .int .u8 0, .bool false, .bool false, .bool false, .int .i64 1, .int .i64 1, .int .i64 4, .int .i64 4, .int .i64 0, .int .i64 2, .int .i64 0])), (3, .alloc 4 44 zU (fun _ => #[.int .i64 7, .int .i64 3, .int .u8 0, .bool false, .bool false, .bool false, .int .i64 1, .int .i64 1, .int .i64 4, .int .i64 4, .int .i64 0, .int .i64 2, .int .i64 0])), (4, .init 3)] (by kernel_rfl) (by kernel_rfl) (by kernel_rfl) (by rfl) (by simp [apartK] <;> omega) (by simp [startK]) (by simp [stabK]) (⟨fun _ => .pointer (some ⟨V.heap.size, 0, none⟩), by simp [okK]⟩) (fun β hβ => ?_)
  refine lex_call (f := 21) (args := ?_) rfl rfl (fun w' hf => ?_) (fun w' hf => ?_) ?_
  rotate_left
  · go_simp
    try rfl
  · exact HN.out w'
  try simp only [Act.put, List.setIfInBounds_toArray, List.set_cons_zero, List.set_cons_succ]
  repeat (
    refine lex_val (v := ?_) rfl rfl (fun w' hf => ?_) ?_
    rotate_left
    · obtain ⟨a0, a1, a2, a3, a4, a5, a6, a7⟩ := HX.out w' hf.only; go_simp
      try rfl
    try simp only [Act.put, List.setIfInBounds_toArray, List.set_cons_zero, List.set_cons_succ])
  refine lex_call (f := 32) (args := ?_) rfl rfl (fun w' hf => ?_) (fun w' hf => ?_) ?_
  rotate_left
  · go_simp
    try rfl
  · exact HT.out w'
  try simp only [Act.put, List.setIfInBounds_toArray, List.set_cons_zero, List.set_cons_succ]
  refine lex_alloc rfl rfl (fun w' => ?_) ?_
  · go_simp
  try simp only [Act.put, List.setIfInBounds_toArray, List.set_cons_zero, List.set_cons_succ]
  refine lex_init rfl rfl rfl (fun b w' hb hf hB => ⟨_, ?_, put13_repl hB (.int .i64 7) (.int .i64 3) (.int .u8 0) (.bool false) (.bool false) (.bool false) (.int .i64 1) (.int .i64 1) (.int .i64 4) (.int .i64 4) (.int .i64 0) (.int .i64 2) (.int .i64 0)⟩) ?_
  · obtain ⟨z0, z1, z2, z3, z4, z5, z6, z7, z8, z9, z10, z11, z12⟩ := fro13 hB
    obtain ⟨d0, d1, d2, d3, d4, d5, d6, d7, d8, d9, d10, d11, d12⟩ := cur13 hB
    unfold put13
    go_simp
  try simp only [Act.put]
  refine lex_nil fun w1 he => ?_
  obtain ⟨b9, hb9, hge, hB9⟩ := he.facts 3
  have HK1 := Lib.hid (Bs.made HV.out he.only hge hB9)
  rw [hb9]
  clear hb9 he hβ hge hB9 HX HV HN HT
  obtain ⟨c0, c1, c2, c3, c4, c5, c6, c7, c8, c9, c10, c11, c12⟩ := cur13 HK1.out.b0
  obtain ⟨a0, a1, a2, a3, a4, a5, a6, a7⟩ := fra8 HK1.out.b1
  go_wp2_with fail
  refine (HU.out _).mono ?_
  rintro e w2 ⟨rfl, hb2⟩
  have HK2 := Lib.hid (HK1.out.next hb2)
  clear hb2 HK1 c0 c1 c2 c3 c4 c5 c6 c7 c8 c9 c10 c11 c12 a0 a1 a2 a3 a4 a5 a6 a7 HU
  obtain ⟨c0, c1, c2, c3, c4, c5, c6, c7, c8, c9, c10, c11, c12⟩ := cur13 HK2.out.b0
  obtain ⟨a0, a1, a2, a3, a4, a5, a6, a7⟩ := fra8 HK2.out.b1
  go_wp2_with fail
  refine (HD.out _).mono ?_
  rintro e w3 ⟨rfl, hb3⟩
  have HK3 := Lib.hid (HK2.out.next hb3)
  clear hb3 HK2 c0 c1 c2 c3 c4 c5 c6 c7 c8 c9 c10 c11 c12 a0 a1 a2 a3 a4 a5 a6 a7 HD
  obtain ⟨c0, c1, c2, c3, c4, c5, c6, c7, c8, c9, c10, c11, c12⟩ := cur13 HK3.out.b0
  obtain ⟨a0, a1, a2, a3, a4, a5, a6, a7⟩ := fra8 HK3.out.b1
  go_wp2_with fail
  refine (HR.out _).mono ?_
  rintro e w4 ⟨rfl, hb4⟩
  have HK4 := Lib.hid (HK3.out.next hb4)
  clear hb4 HK3 c0 c1 c2 c3 c4 c5 c6 c7 c8 c9 c10 c11 c12 a0 a1 a2 a3 a4 a5 a6 a7 HR
  obtain ⟨c0, c1, c2, c3, c4, c5, c6, c7, c8, c9, c10, c11, c12⟩ := cur13 HK4.out.b0
  obtain ⟨a0, a1, a2, a3, a4, a5, a6, a7⟩ := fra8 HK4.out.b1
  go_wp2_with fail
  refine (HI.out _).mono ?_
  rintro e w5 ⟨rfl, hb5⟩
  have HK5 := Lib.hid (HK4.out.next hb5)
  clear hb5 HK4 c0 c1 c2 c3 c4 c5 c6 c7 c8 c9 c10 c11 c12 a0 a1 a2 a3 a4 a5 a6 a7 HI
  go_wp2_with fail
  go_ret
  exact ⟨rfl, HK5.out.bel⟩
end Go.Proofs.Ytilfhilebdkmkaa

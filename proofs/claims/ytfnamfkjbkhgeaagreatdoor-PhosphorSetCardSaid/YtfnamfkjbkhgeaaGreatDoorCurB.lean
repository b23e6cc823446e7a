/-
  Cursors: new ones; as the document has them, as the program has them; put to a place; brought to a box.
-/
import Derived.Test.YtfnamfkjbkhgeaaGreatDoorCurA
namespace Go.Proofs.YtfnamfkjbkhgeaaGreatDoor

open Go Go.RowKit

def newK : CK := ⟨0, false, false, 1, 1, 4, 4, 0, 2, 0⟩
theorem cIsoNew_any (w : World) : Calls Tryz.prog 98 #[] w fun e w' => e = .returned (.agg #[.int .i64 1, .int .i64 1, .int .i64 4, .int .i64 4, .int .i64 0, .int .i64 2, .int .i64 0]) ∧ Below w.heap.size w w' := by
  go_enter Tryz.func98, Tryz.ntmps98
  go_wp2_with fail
  exact bodyPost_ret (v := .agg #[.int .i64 1, .int .i64 1, .int .i64 4, .int .i64 4, .int .i64 0, .int .i64 2, .int .i64 0]) (by simp [results, Tryz.results98, go_sem]) rfl ⟨rfl, (Below.refl _ _).alloc (Nat.le_refl _) _⟩

set_option maxRecDepth 100000 in
set_option maxHeartbeats 8000000 in
theorem cursNew_any (w : World) : Calls Tryz.prog 60 #[] w fun e w' => e = .returned (uV 0 0 false newK) ∧ Below w.heap.size w w' := by
  have HN := Lib.hid (fun W => cIsoNew_any W)
  have HK := Lib.hid ((Bs.nil w).alloc 40 zU)
  unfold uV newK
  go_enter Tryz.func60, Tryz.ntmps60
  go_wp2_with fail
  refine (HN.out _).mono ?_
  rintro e w1 ⟨rfl, hb1⟩
  have HK1 := Lib.hid (HK.out.next hb1)
  clear hb1 HK
  obtain ⟨z0, z1, z2, z3, z4, z5, z6, z7, z8, z9, z10, z11, z12⟩ := fro13 HK1.out.b0
  obtain ⟨c0, c1, c2, c3, c4, c5, c6, c7, c8, c9, c10, c11, c12⟩ := cur13 HK1.out.b0
  go_wp2_with fail
  have HK2 := Bs.p0 HK1.out (.int .i64 0) (.int .i64 0) (.int .u8 0) (.bool false) (.bool false) (.bool false) (.int .i64 1) (.int .i64 1) (.int .i64 4) (.int .i64 4) (.int .i64 0) (.int .i64 2) (.int .i64 0)
  unfold put13 at HK2
  obtain ⟨e0, e1, e2, e3, e4, e5, e6, e7, e8, e9, e10, e11, e12⟩ := cur13 HK2.b0
  exact bodyPost_ret (v := .agg #[.int .i64 0, .int .i64 0, .int .u8 0, .bool false, .bool false, .bool false, .int .i64 1, .int .i64 1, .int .i64 4, .int .i64 4, .int .i64 0, .int .i64 2, .int .i64 0]) (by simp [results, Tryz.results60, go_sem, e0, e1, e2, e3, e4, e5, e6, e7, e8, e9, e10, e11, e12]) rfl ⟨rfl, HK2.bel⟩

set_option maxHeartbeats 2000000 in
theorem iOwn_any (K : CK) (w : World) : Calls Tryz.prog 62 #[.agg #[.int .i64 K.a, .int .i64 K.b, .int .i64 K.c, .int .i64 K.d, .int .i64 K.l, .int .i64 K.r, .int .i64 K.s]] w fun e w' => e = .returned (.agg #[.int .i64 K.a, .int .i64 K.b, .int .i64 K.c, .int .i64 K.d, .int .i64 K.l, .int .i64 K.r, .int .i64 K.s]) ∧ Below w.heap.size w w' := by
  go_enter Tryz.func62, Tryz.ntmps62
  go_wp2_with fail
  exact bodyPost_ret (v := .agg #[.int .i64 K.a, .int .i64 K.b, .int .i64 K.c, .int .i64 K.d, .int .i64 K.l, .int .i64 K.r, .int .i64 K.s]) (by simp [results, Tryz.results62, go_sem]) rfl ⟨rfl, ((Below.refl _ _).alloc (Nat.le_refl _) _).alloc (by simp) _⟩
set_option maxHeartbeats 2000000 in
theorem iTold_any (K : CK) (w : World) : Calls Tryz.prog 86 #[.agg #[.int .i64 K.a, .int .i64 K.b, .int .i64 K.c, .int .i64 K.d, .int .i64 K.l, .int .i64 K.r, .int .i64 K.s]] w fun e w' => e = .returned (.agg #[.int .i64 K.a, .int .i64 K.b, .int .i64 K.c, .int .i64 K.d, .int .i64 K.l, .int .i64 K.r, .int .i64 K.s]) ∧ Below w.heap.size w w' := by
  go_enter Tryz.func86, Tryz.ntmps86
  go_wp2_with fail
  exact bodyPost_ret (v := .agg #[.int .i64 K.a, .int .i64 K.b, .int .i64 K.c, .int .i64 K.d, .int .i64 K.l, .int .i64 K.r, .int .i64 K.s]) (by simp [results, Tryz.results86, go_sem]) rfl ⟨rfl, ((Below.refl _ _).alloc (Nat.le_refl _) _).alloc (by simp) _⟩
set_option maxRecDepth 100000 in
set_option maxHeartbeats 8000000 in
theorem cOwn_any (r c : Int) (wp : Bool) (K : CK) (w : World) : Calls Tryz.prog 22 #[uV r c wp K] w fun e w' => e = .returned (uV r c wp K) ∧ Below w.heap.size w w' := by
  have HN := Lib.hid (fun W => iOwn_any K W)
  have HS := Lib.hid (Bs.start2 w 27 40 (uC r c wp K) zU)
  unfold uV
  go_enter Tryz.func22, Tryz.ntmps22
  go_wp2_with fail
  refine world_gen (fun W => Bs w [(w.heap.size + 1, 40, zU), (w.heap.size, 27, uC r c wp K)] W) HS.out ?_
  intro W HW
  replace HW := Lib.hid HW
  have HC := Lib.hid (fun w' (h : Only [w.heap.size + 1] W w') => cur13 (h.blk HW.out.b1 (by simp)))
  clear HS
  refine wp_region_mix_lit (by kernel_rfl) [(15, .call (.agg #[.int .i64 K.a, .int .i64 K.b, .int .i64 K.c, .int .i64 K.d, .int .i64 K.l, .int .i64 K.r, .int .i64 K.s])), (17, .store (w.heap.size + 1) 40 zU (fun _ => uC r c wp K))] (by kernel_rfl) (by kernel_rfl) (by kernel_rfl) (by rfl) (by simp [apartK] <;> omega) (by simp [startK]; exact HW.out.b0) (by simp [stabK]) (⟨fun _ => undef, by simp [okK]⟩) (fun β hβ => ?_)
  repeat (
    refine lex_val (v := ?_) rfl rfl (fun w' hf => ?_) ?_
    rotate_left
    · obtain ⟨c0, c1, c2, c3, c4, c5, c6, c7, c8, c9, c10, c11, c12⟩ := HC.out w' hf.only; go_simp
      try rfl
    try simp only [Act.put, List.setIfInBounds_toArray, List.set_cons_zero, List.set_cons_succ])
  refine lex_call (f := 62) (args := ?_) rfl rfl (fun w' hf => ?_) (fun w' hf => ?_) ?_
  rotate_left
  · go_simp
    try rfl
  · exact HN.out w'
  try simp only [Act.put, List.setIfInBounds_toArray, List.set_cons_zero, List.set_cons_succ]
  repeat (
    refine lex_val (v := ?_) rfl rfl (fun w' hf => ?_) ?_
    rotate_left
    · go_simp
      try rfl
    try simp only [Act.put, List.setIfInBounds_toArray, List.set_cons_zero, List.set_cons_succ])
  refine lex_store rfl rfl (fun w' hf hB => ⟨_, ?_, put13_repl hB (.int .i64 r) (.int .i64 c) (.int .u8 K.rd) (.bool K.kp) (.bool wp) (.bool K.og) (.int .i64 K.a) (.int .i64 K.b) (.int .i64 K.c) (.int .i64 K.d) (.int .i64 K.l) (.int .i64 K.r) (.int .i64 K.s)⟩) ?_
  · obtain ⟨z0, z1, z2, z3, z4, z5, z6, z7, z8, z9, z10, z11, z12⟩ := fro13 hB
    obtain ⟨c0, c1, c2, c3, c4, c5, c6, c7, c8, c9, c10, c11, c12⟩ := cur13 hB
    unfold put13
    go_simp
  try simp only [Act.put]
  refine lex_nil fun w1 he => ?_
  have hb9 : Blk w1 (w.heap.size + 1) 40 (uC r c wp K) := he.facts 17
  have HK1 := Lib.hid (Bs.mix HW.out he.only hb9)
  clear he hb9 HW HC hβ
  obtain ⟨e0, e1, e2, e3, e4, e5, e6, e7, e8, e9, e10, e11, e12⟩ := cur13 HK1.out.b0
  go_wp2_with fail
  exact bodyPost_ret (v := .agg #[.int .i64 r, .int .i64 c, .int .u8 K.rd, .bool K.kp, .bool wp, .bool K.og, .int .i64 K.a, .int .i64 K.b, .int .i64 K.c, .int .i64 K.d, .int .i64 K.l, .int .i64 K.r, .int .i64 K.s]) (by simp [results, Tryz.results22, go_sem, e0, e1, e2, e3, e4, e5, e6, e7, e8, e9, e10, e11, e12]) rfl ⟨rfl, HK1.out.bel⟩
set_option maxRecDepth 100000 in
set_option maxHeartbeats 8000000 in
theorem cTold_any (r c : Int) (wp : Bool) (K : CK) (w : World) : Calls Tryz.prog 41 #[uV r c wp K] w fun e w' => e = .returned (uV r c wp K) ∧ Below w.heap.size w w' := by
  have HN := Lib.hid (fun W => iTold_any K W)
  have HS := Lib.hid (Bs.start2 w 40 27 (uC r c wp K) zU)
  unfold uV
  go_enter Tryz.func41, Tryz.ntmps41
  go_wp2_with fail
  refine world_gen (fun W => Bs w [(w.heap.size + 1, 27, zU), (w.heap.size, 40, uC r c wp K)] W) HS.out ?_
  intro W HW
  replace HW := Lib.hid HW
  have HC := Lib.hid (fun w' (h : Only [w.heap.size + 1] W w') => cur13 (h.blk HW.out.b1 (by simp)))
  clear HS
  refine wp_region_mix_lit (by kernel_rfl) [(16, .call (.agg #[.int .i64 K.a, .int .i64 K.b, .int .i64 K.c, .int .i64 K.d, .int .i64 K.l, .int .i64 K.r, .int .i64 K.s])), (18, .store (w.heap.size + 1) 27 zU (fun _ => uC r c wp K))] (by kernel_rfl) (by kernel_rfl) (by kernel_rfl) (by rfl) (by simp [apartK] <;> omega) (by simp [startK]; exact HW.out.b0) (by simp [stabK]) (⟨fun _ => undef, by simp [okK]⟩) (fun β hβ => ?_)
  repeat (
    refine lex_val (v := ?_) rfl rfl (fun w' hf => ?_) ?_
    rotate_left
    · obtain ⟨c0, c1, c2, c3, c4, c5, c6, c7, c8, c9, c10, c11, c12⟩ := HC.out w' hf.only; go_simp
      try rfl
    try simp only [Act.put, List.setIfInBounds_toArray, List.set_cons_zero, List.set_cons_succ])
  refine lex_call (f := 86) (args := ?_) rfl rfl (fun w' hf => ?_) (fun w' hf => ?_) ?_
  rotate_left
  · go_simp
    try rfl
  · exact HN.out w'
  try simp only [Act.put, List.setIfInBounds_toArray, List.set_cons_zero, List.set_cons_succ]
  repeat (
    refine lex_val (v := ?_) rfl rfl (fun w' hf => ?_) ?_
    rotate_left
    · go_simp
      try rfl
    try simp only [Act.put, List.setIfInBounds_toArray, List.set_cons_zero, List.set_cons_succ])
  refine lex_store rfl rfl (fun w' hf hB => ⟨_, ?_, put13_repl hB (.int .i64 r) (.int .i64 c) (.int .u8 K.rd) (.bool K.kp) (.bool wp) (.bool K.og) (.int .i64 K.a) (.int .i64 K.b) (.int .i64 K.c) (.int .i64 K.d) (.int .i64 K.l) (.int .i64 K.r) (.int .i64 K.s)⟩) ?_
  · obtain ⟨z0, z1, z2, z3, z4, z5, z6, z7, z8, z9, z10, z11, z12⟩ := fro13 hB
    obtain ⟨c0, c1, c2, c3, c4, c5, c6, c7, c8, c9, c10, c11, c12⟩ := cur13 hB
    unfold put13
    go_simp
  try simp only [Act.put]
  refine lex_nil fun w1 he => ?_
  have hb9 : Blk w1 (w.heap.size + 1) 27 (uC r c wp K) := he.facts 18
  have HK1 := Lib.hid (Bs.mix HW.out he.only hb9)
  clear he hb9 HW HC hβ
  obtain ⟨e0, e1, e2, e3, e4, e5, e6, e7, e8, e9, e10, e11, e12⟩ := cur13 HK1.out.b0
  go_wp2_with fail
  exact bodyPost_ret (v := .agg #[.int .i64 r, .int .i64 c, .int .u8 K.rd, .bool K.kp, .bool wp, .bool K.og, .int .i64 K.a, .int .i64 K.b, .int .i64 K.c, .int .i64 K.d, .int .i64 K.l, .int .i64 K.r, .int .i64 K.s]) (by simp [results, Tryz.results41, go_sem, e0, e1, e2, e3, e4, e5, e6, e7, e8, e9, e10, e11, e12]) rfl ⟨rfl, HK1.out.bel⟩
end Go.Proofs.YtfnamfkjbkhgeaaGreatDoor

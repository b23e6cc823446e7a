/-
  Cores: small ones; flags.
-/
import Derived.Test.YtfnamfkjbkhgeaaGreatDoorStaD
namespace Go.Proofs.YtfnamfkjbkhgeaaGreatDoor

open Go Go.RowKit

/-- A core as it came in: the modes may be anything. -/
def coZ (x : Co) (mz : Int) : Array Value := #[.int .i64 x.r, .int .i64 x.c, .int .u8 x.K.rd, .bool x.K.kp, .bool x.wp, .bool x.K.og, .int .i64 x.K.a, .int .i64 x.K.b, .int .i64 x.K.c, .int .i64 x.K.d, .int .i64 x.K.l, .int .i64 x.K.r, .int .i64 x.K.s, .int .i64 x.f.pt, .int .i64 x.f.pl, .int .i64 x.f.pb, .int .i64 x.f.pr, .int .i64 x.f.mt, .int .i64 x.f.ml, .int .i64 x.f.mb, .int .i64 x.f.mr, .int .i64 mz, .int .i64 x.lv, .bool x.eg, .bool x.st, .int .i64 x.su, .bool x.bl, .int .i64 x.pg, .int .i64 x.ps]
def smK (f : Fr) (mz : Int) : Bool := decide (0 ≤ mz) && (decide (mz < 4294967296) && (decide (f.pb ≤ 60000) && decide (f.pr ≤ 60000)))
set_option maxRecDepth 100000 in
set_option maxHeartbeats 8000000 in
theorem sSmall_any (x : Co) (mz : Int) (w : World) : Calls Tryz.prog 7 #[.agg (coZ x mz)] w fun e w' => e = .returned (.bool (smK x.f mz)) ∧ Below w.heap.size w w' := by
  unfold smK
  rcases h1 : decide (0 ≤ mz) with _ | _
  · unfold coZ
    go_enter Tryz.func7, Tryz.ntmps7
    go_wp2_with fail
    go_ret
    exact ⟨rfl, (Below.refl _ _).alloc (Nat.le_refl _) _⟩
  · rcases h2 : decide (mz < 4294967296) with _ | _
    · unfold coZ
      go_enter Tryz.func7, Tryz.ntmps7
      go_wp2_with fail
      go_ret
      exact ⟨rfl, (Below.refl _ _).alloc (Nat.le_refl _) _⟩
    · rcases h3 : decide (x.f.pb ≤ 60000) with _ | _
      · unfold coZ
        go_enter Tryz.func7, Tryz.ntmps7
        go_wp2_with fail
        go_ret
        exact ⟨rfl, (Below.refl _ _).alloc (Nat.le_refl _) _⟩
      · rcases h4 : decide (x.f.pr ≤ 60000) with _ | _
        all_goals
          unfold coZ
          go_enter Tryz.func7, Tryz.ntmps7
          go_wp2_with fail
          go_ret
          exact ⟨rfl, (Below.refl _ _).alloc (Nat.le_refl _) _⟩
def flgP (wp og : Bool) (s : Int) : Nat := (og.toNat + wp.toNat * 8) + (if s = 2 then 2 else if s = 3 then 4 else 0)
theorem flg_or : ∀ (a b : Bool), bits .or .i64 (a.toNat : Int) ((b.toNat : Int) * 8) = (a.toNat : Int) + (b.toNat : Int) * 8 ∧ bits .or .i64 ((a.toNat : Int) + (b.toNat : Int) * 8) 2 = (a.toNat : Int) + (b.toNat : Int) * 8 + 2 ∧ bits .or .i64 ((a.toNat : Int) + (b.toNat : Int) * 8) 4 = (a.toNat : Int) + (b.toNat : Int) * 8 + 4 := by decide +kernel
set_option maxRecDepth 100000 in
set_option maxHeartbeats 8000000 in
theorem flags_any (r c : Int) (wp : Bool) (K : CK) (w : World) : Calls Tryz.prog 29 #[uV r c wp K] w fun e w' => e = .returned (.int .i64 (flgP wp K.og K.s : Nat)) ∧ Below w.heap.size w w' := by
  have HB := Lib.hid (fun b V => bit_any b V)
  have hs : (K.s = 2 ∧ (flgP wp K.og K.s : Int) = (K.og.toNat : Int) + (wp.toNat : Int) * 8 + 2) ∨ (K.s = 3 ∧ (flgP wp K.og K.s : Int) = (K.og.toNat : Int) + (wp.toNat : Int) * 8 + 4) ∨ ((K.s == 2) = false ∧ (K.s == 3) = false ∧ (flgP wp K.og K.s : Int) = (K.og.toNat : Int) + (wp.toNat : Int) * 8) := by
    unfold flgP
    by_cases h2 : K.s = 2
    · left; simp [h2]
    · by_cases h3 : K.s = 3
      · right; left; simp [h3]
      · right; right; simp [h2, h3]
  obtain ⟨o1, o2, o3⟩ := flg_or K.og wp
  have hbo : (K.og.toNat : Int) ≤ 1 := by cases K.og <;> decide
  have hbw : (wp.toNat : Int) ≤ 1 := by cases wp <;> decide
  generalize (flgP wp K.og K.s : Int) = out at *
  obtain ⟨rd, kp, og, a, b, cc, d, l, rr, s⟩ := K
  unfold uV
  simp only at *
  generalize hq1 : (og.toNat : Int) = u at *
  generalize hq2 : (wp.toNat : Int) = v at *
  have HB1 := Lib.hid (fun V => bit_any og V); have HB2 := Lib.hid (fun V => bit_any wp V)
  rw [hq1] at HB1
  rw [hq2] at HB2
  have hu0 : 0 ≤ u := by omega
  have hv0 : 0 ≤ v := by omega
  have hw1 : IntKind.i64.wrap u = u := IntWalk.i64_in _ (by omega)
  have hw2 : IntKind.i64.wrap (v * 8) = v * 8 := IntWalk.i64_in _ (by omega)
  clear hq1 hq2 HB
  have hHS := Lib.hid ((Below.refl w.heap.size w).alloc (Nat.le_refl _) (.cells #[.int .i64 r, .int .i64 c, .int .u8 rd, .bool kp, .bool wp, .bool og, .int .i64 a, .int .i64 b, .int .i64 cc, .int .i64 d, .int .i64 l, .int .i64 rr, .int .i64 s] 40))
  rcases hs with ⟨rfl, rfl⟩ | ⟨rfl, rfl⟩ | ⟨g2, g3, rfl⟩
  · skip
    go_enter Tryz.func29, Tryz.ntmps29
    go_upto_region 1 with fail
    have hbl := (Blk.new w 40 #[.int .i64 r, .int .i64 c, .int .u8 rd, .bool kp, .bool wp, .bool og, .int .i64 a, .int .i64 b, .int .i64 cc, .int .i64 d, .int .i64 l, .int .i64 rr, .int .i64 2])
    refine world_gen (fun V => Below w.heap.size w V ∧ Blk V w.heap.size 40 #[.int .i64 r, .int .i64 c, .int .u8 rd, .bool kp, .bool wp, .bool og, .int .i64 a, .int .i64 b, .int .i64 cc, .int .i64 d, .int .i64 l, .int .i64 rr, .int .i64 2]) ⟨hHS.out, hbl⟩ ?_
    intro V0 HV
    replace HV := Lib.hid HV
    have HC := Lib.hid (fun w' (h : Only [] V0 w') => cur13 (h.blk HV.out.2 (by simp)))
    clear hHS hbl
    refine wp_region_mix_lit (by kernel_rfl) [(2, .call (.int .i64 u)), (6, .call (.int .i64 v))] (by kernel_rfl) (by kernel_rfl) (by kernel_rfl) (by rfl) (by simp [apartK] <;> omega) (by simp [startK]) (by simp [stabK]) (⟨fun _ => undef, by simp [okK]⟩) (fun β hβ => ?_)
    repeat (
      refine lex_val (v := ?_) rfl rfl (fun w' hf => ?_) ?_
      rotate_left
      · obtain ⟨c0, c1, c2, c3, c4, c5, c6, c7, c8, c9, c10, c11, c12⟩ := HC.out w' hf.only; go_simp
        try rfl
      try simp only [Act.put, List.setIfInBounds_toArray, List.set_cons_zero, List.set_cons_succ])
    refine lex_call (f := 28) (args := ?_) rfl rfl (fun w' hf => ?_) (fun w' hf => ?_) ?_
    rotate_left
    · go_simp
      try rfl
    · exact (HB1.out w').mono (by rintro e w'' ⟨rfl, rfl⟩; exact ⟨rfl, Below.refl _ _⟩)
    try simp only [Act.put, List.setIfInBounds_toArray, List.set_cons_zero, List.set_cons_succ]
    repeat (
      refine lex_val (v := ?_) rfl rfl (fun w' hf => ?_) ?_
      rotate_left
      · obtain ⟨c0, c1, c2, c3, c4, c5, c6, c7, c8, c9, c10, c11, c12⟩ := HC.out w' hf.only; go_simp
        try rfl
      try simp only [Act.put, List.setIfInBounds_toArray, List.set_cons_zero, List.set_cons_succ])
    refine lex_call (f := 28) (args := ?_) rfl rfl (fun w' hf => ?_) (fun w' hf => ?_) ?_
    rotate_left
    · go_simp
      try rfl
    · exact (HB2.out w').mono (by rintro e w'' ⟨rfl, rfl⟩; exact ⟨rfl, Below.refl _ _⟩)
    try simp only [Act.put, List.setIfInBounds_toArray, List.set_cons_zero, List.set_cons_succ]
    repeat (
      refine lex_val (v := ?_) rfl rfl (fun w' hf => ?_) ?_
      rotate_left
      · go_simp
        try rfl
      try simp only [Act.put, List.setIfInBounds_toArray, List.set_cons_zero, List.set_cons_succ])
    refine lex_nil fun w' he => ?_
    --#2
    obtain ⟨c0, c1, c2, c3, c4, c5, c6, c7, c8, c9, c10, c11, c12⟩ := HC.out w' he.only
    have hbe := Lib.hid (HV.out.1.trans (he.only.below0.mono HV.out.1.size))
    clear he HC HB1 HB2 HV
    go_wp2_with fail
    go_ret
    exact ⟨rfl, hbe.out⟩
  · skip
    go_enter Tryz.func29, Tryz.ntmps29
    go_upto_region 1 with fail
    have hbl := (Blk.new w 40 #[.int .i64 r, .int .i64 c, .int .u8 rd, .bool kp, .bool wp, .bool og, .int .i64 a, .int .i64 b, .int .i64 cc, .int .i64 d, .int .i64 l, .int .i64 rr, .int .i64 3])
    refine world_gen (fun V => Below w.heap.size w V ∧ Blk V w.heap.size 40 #[.int .i64 r, .int .i64 c, .int .u8 rd, .bool kp, .bool wp, .bool og, .int .i64 a, .int .i64 b, .int .i64 cc, .int .i64 d, .int .i64 l, .int .i64 rr, .int .i64 3]) ⟨hHS.out, hbl⟩ ?_
    intro V0 HV
    replace HV := Lib.hid HV
    have HC := Lib.hid (fun w' (h : Only [] V0 w') => cur13 (h.blk HV.out.2 (by simp)))
    clear hHS hbl
    refine wp_region_mix_lit (by kernel_rfl) [(2, .call (.int .i64 u)), (6, .call (.int .i64 v))] (by kernel_rfl) (by kernel_rfl) (by kernel_rfl) (by rfl) (by simp [apartK] <;> omega) (by simp [startK]) (by simp [stabK]) (⟨fun _ => undef, by simp [okK]⟩) (fun β hβ => ?_)
    repeat (
      refine lex_val (v := ?_) rfl rfl (fun w' hf => ?_) ?_
      rotate_left
      · obtain ⟨c0, c1, c2, c3, c4, c5, c6, c7, c8, c9, c10, c11, c12⟩ := HC.out w' hf.only; go_simp
        try rfl
      try simp only [Act.put, List.setIfInBounds_toArray, List.set_cons_zero, List.set_cons_succ])
    refine lex_call (f := 28) (args := ?_) rfl rfl (fun w' hf => ?_) (fun w' hf => ?_) ?_
    rotate_left
    · go_simp
      try rfl
    · exact (HB1.out w').mono (by rintro e w'' ⟨rfl, rfl⟩; exact ⟨rfl, Below.refl _ _⟩)
    try simp only [Act.put, List.setIfInBounds_toArray, List.set_cons_zero, List.set_cons_succ]
    repeat (
      refine lex_val (v := ?_) rfl rfl (fun w' hf => ?_) ?_
      rotate_left
      · obtain ⟨c0, c1, c2, c3, c4, c5, c6, c7, c8, c9, c10, c11, c12⟩ := HC.out w' hf.only; go_simp
        try rfl
      try simp only [Act.put, List.setIfInBounds_toArray, List.set_cons_zero, List.set_cons_succ])
    refine lex_call (f := 28) (args := ?_) rfl rfl (fun w' hf => ?_) (fun w' hf => ?_) ?_
    rotate_left
    · go_simp
      try rfl
    · exact (HB2.out w').mono (by rintro e w'' ⟨rfl, rfl⟩; exact ⟨rfl, Below.refl _ _⟩)
    try simp only [Act.put, List.setIfInBounds_toArray, List.set_cons_zero, List.set_cons_succ]
    repeat (
      refine lex_val (v := ?_) rfl rfl (fun w' hf => ?_) ?_
      rotate_left
      · go_simp
        try rfl
      try simp only [Act.put, List.setIfInBounds_toArray, List.set_cons_zero, List.set_cons_succ])
    refine lex_nil fun w' he => ?_
    --#2
    obtain ⟨c0, c1, c2, c3, c4, c5, c6, c7, c8, c9, c10, c11, c12⟩ := HC.out w' he.only
    have hbe := Lib.hid (HV.out.1.trans (he.only.below0.mono HV.out.1.size))
    clear he HC HB1 HB2 HV
    go_wp2_with fail
    go_ret
    exact ⟨rfl, hbe.out⟩
  · skip
    go_enter Tryz.func29, Tryz.ntmps29
    go_upto_region 1 with fail
    have hbl := (Blk.new w 40 #[.int .i64 r, .int .i64 c, .int .u8 rd, .bool kp, .bool wp, .bool og, .int .i64 a, .int .i64 b, .int .i64 cc, .int .i64 d, .int .i64 l, .int .i64 rr, .int .i64 s])
    refine world_gen (fun V => Below w.heap.size w V ∧ Blk V w.heap.size 40 #[.int .i64 r, .int .i64 c, .int .u8 rd, .bool kp, .bool wp, .bool og, .int .i64 a, .int .i64 b, .int .i64 cc, .int .i64 d, .int .i64 l, .int .i64 rr, .int .i64 s]) ⟨hHS.out, hbl⟩ ?_
    intro V0 HV
    replace HV := Lib.hid HV
    have HC := Lib.hid (fun w' (h : Only [] V0 w') => cur13 (h.blk HV.out.2 (by simp)))
    clear hHS hbl
    refine wp_region_mix_lit (by kernel_rfl) [(2, .call (.int .i64 u)), (6, .call (.int .i64 v))] (by kernel_rfl) (by kernel_rfl) (by kernel_rfl) (by rfl) (by simp [apartK] <;> omega) (by simp [startK]) (by simp [stabK]) (⟨fun _ => undef, by simp [okK]⟩) (fun β hβ => ?_)
    repeat (
      refine lex_val (v := ?_) rfl rfl (fun w' hf => ?_) ?_
      rotate_left
      · obtain ⟨c0, c1, c2, c3, c4, c5, c6, c7, c8, c9, c10, c11, c12⟩ := HC.out w' hf.only; go_simp
        try rfl
      try simp only [Act.put, List.setIfInBounds_toArray, List.set_cons_zero, List.set_cons_succ])
    refine lex_call (f := 28) (args := ?_) rfl rfl (fun w' hf => ?_) (fun w' hf => ?_) ?_
    rotate_left
    · go_simp
      try rfl
    · exact (HB1.out w').mono (by rintro e w'' ⟨rfl, rfl⟩; exact ⟨rfl, Below.refl _ _⟩)
    try simp only [Act.put, List.setIfInBounds_toArray, List.set_cons_zero, List.set_cons_succ]
    repeat (
      refine lex_val (v := ?_) rfl rfl (fun w' hf => ?_) ?_
      rotate_left
      · obtain ⟨c0, c1, c2, c3, c4, c5, c6, c7, c8, c9, c10, c11, c12⟩ := HC.out w' hf.only; go_simp
        try rfl
      try simp only [Act.put, List.setIfInBounds_toArray, List.set_cons_zero, List.set_cons_succ])
    refine lex_call (f := 28) (args := ?_) rfl rfl (fun w' hf => ?_) (fun w' hf => ?_) ?_
    rotate_left
    · go_simp
      try rfl
    · exact (HB2.out w').mono (by rintro e w'' ⟨rfl, rfl⟩; exact ⟨rfl, Below.refl _ _⟩)
    try simp only [Act.put, List.setIfInBounds_toArray, List.set_cons_zero, List.set_cons_succ]
    repeat (
      refine lex_val (v := ?_) rfl rfl (fun w' hf => ?_) ?_
      rotate_left
      · go_simp
        try rfl
      try simp only [Act.put, List.setIfInBounds_toArray, List.set_cons_zero, List.set_cons_succ])
    refine lex_nil fun w' he => ?_
    --#2
    obtain ⟨c0, c1, c2, c3, c4, c5, c6, c7, c8, c9, c10, c11, c12⟩ := HC.out w' he.only
    have hbe := Lib.hid (HV.out.1.trans (he.only.below0.mono HV.out.1.size))
    clear he HC HB1 HB2 HV
    go_wp2_with fail
    go_ret
    exact ⟨rfl, hbe.out⟩
end Go.Proofs.YtfnamfkjbkhgeaaGreatDoor

/-
  Frames: the document's margins, areas; cursors on the page, within the margins.
-/
import Derived.Test.YtfnamfkjbkhgeaaGreatDoorCurE
namespace Go.Proofs.YtfnamfkjbkhgeaaGreatDoor

open Go Go.RowKit

def pick (og : Bool) (a b : Int) : Int := if og then a else b
def insB (H W it il ib ir r c : Int) : Bool := inBx it il ib ir (clipP r 0 (H - 1)) (clipP c 0 (W - 1))
set_option maxHeartbeats 2000000 in
theorem lFrame_any (f : Fr) (w : World) : Calls Tryz.prog 23 #[fV f] w fun e w' => e = .returned (fV f) ∧ Below w.heap.size w w' := by
  unfold fV
  go_enter Tryz.func23, Tryz.ntmps23
  go_wp2_with fail
  exact bodyPost_ret (v := .agg #[.int .i64 f.pt, .int .i64 f.pl, .int .i64 f.pb, .int .i64 f.pr, .int .i64 f.mt, .int .i64 f.ml, .int .i64 f.mb, .int .i64 f.mr]) (by simp [results, Tryz.results23, go_sem]) rfl ⟨rfl, ((Below.refl _ _).alloc (Nat.le_refl _) _).alloc (by simp) _⟩
def smF (f : Fr) : Bool := decide (f.pb ≤ 60000) && decide (f.pr ≤ 60000)

set_option maxRecDepth 100000 in
set_option maxHeartbeats 8000000 in
theorem refInnerC_any {f : Fr} {H W it il ib ir : Int} (h : FrOk f H W it il ib ir) (w : World) : Calls Tryz.prog 43 #[fV f] w fun e w' => e = .returned (bV it il ib ir) ∧ Below w.heap.size w w' := by
  have HWh := Lib.hid (fun V => refWholeC_any h V)
  have HK := Lib.hid (Bs.start2' w 31 29 (fC f) (bC 0 0 0 0))
  obtain ⟨m0, m1, m2, m3, hm, hx⟩ := h.inn
  have HM := Lib.hid (fun V => refMeet_any f.mt f.ml f.mb f.mr 0 0 H W V)
  rw [← cur_meet_eq, hm] at HM
  simp only at HM
  have HE := Lib.hid (fun V => refEmpty_any m0 m1 m2 m3 V)
  clear hm h
  generalize bEm m0 m1 m2 m3 = em at *
  unfold fV bV at *
  rcases hx with ⟨rfl, rfl, rfl, rfl, rfl⟩ | ⟨rfl, rfl, rfl, rfl, rfl⟩
  · skip
    go_enter Tryz.func43, Tryz.ntmps43
    go_wp2_with fail
    refine world_gen (fun V => Bs w [(w.heap.size, 31, fC f), (w.heap.size + 1, 29, bC 0 0 0 0)] V) HK.out ?_
    intro V HV
    replace HV := Lib.hid HV
    have HC := Lib.hid (fun w' (h : Only [] V w') => fra8 (h.blk HV.out.b0 (by simp)))
    clear HK
    refine wp_region_mix_lit (by kernel_rfl) [(3, .call (.agg #[.int .i64 0, .int .i64 0, .int .i64 ib, .int .i64 ir])), (4, .call (.agg #[.int .i64 m0, .int .i64 m1, .int .i64 m2, .int .i64 m3])), (5, .alloc 6 29 #[.int .i64 0, .int .i64 0, .int .i64 0, .int .i64 0] (fun _ => #[.int .i64 m0, .int .i64 m1, .int .i64 m2, .int .i64 m3])), (6, .init 5)] (by kernel_rfl) (by kernel_rfl) (by kernel_rfl) (by rfl) (by simp [apartK] <;> omega) (by simp [startK]) (by simp [stabK]) (⟨fun _ => .pointer (some ⟨V.heap.size, 0, none⟩), by simp [okK]⟩) (fun β hβ => ?_)
    repeat (
      refine lex_val (v := ?_) rfl rfl (fun w' hf => ?_) ?_
      rotate_left
      · obtain ⟨a0, a1, a2, a3, a4, a5, a6, a7⟩ := HC.out w' hf.only; go_simp
        try rfl
      try simp only [Act.put, List.setIfInBounds_toArray, List.set_cons_zero, List.set_cons_succ])
    refine lex_call (f := 42) (args := ?_) rfl rfl (fun w' hf => ?_) (fun w' hf => ?_) ?_
    rotate_left
    · go_simp
      try rfl
    · exact HWh.out w'
    try simp only [Act.put, List.setIfInBounds_toArray, List.set_cons_zero, List.set_cons_succ]
    refine lex_call (f := 87) (args := ?_) rfl rfl (fun w' hf => ?_) (fun w' hf => ?_) ?_
    rotate_left
    · go_simp
      try rfl
    · exact HM.out w'
    try simp only [Act.put, List.setIfInBounds_toArray, List.set_cons_zero, List.set_cons_succ]
    refine lex_alloc rfl rfl (fun w' => ?_) ?_
    · go_simp
    try simp only [Act.put, List.setIfInBounds_toArray, List.set_cons_zero, List.set_cons_succ]
    refine lex_init rfl rfl rfl (fun b w' hb hf hB => ⟨_, ?_, repl4 hB _ _ _ _⟩) ?_
    · have gB := blk4 hB
      go_simp
    try simp only [Act.put]
    refine lex_nil fun w1 he => ?_
    obtain ⟨b9, hb9, hge, hB9⟩ := he.facts 5
    have HK1 := Lib.hid (Bs.made HV.out he.only hge hB9)
    rw [hb9]
    clear hb9 he hβ hge hB9 HC HV
    obtain ⟨c0, c1, c2, c3, _⟩ := blk4 HK1.out.b0
    go_wp2_with fail
    refine (HE.out _).mono ?_
    rintro e w2 ⟨rfl, hb2⟩
    have HK2 := Lib.hid (HK1.out.next hb2)
    clear hb2 c0 c1 c2 c3 HK1
    obtain ⟨a0, a1, a2, a3, a4, a5, a6, a7⟩ := fra8 HK2.out.b1
    go_wp2_with fail
    refine (HWh.out _).mono ?_
    rintro e w3 ⟨rfl, hb3⟩
    have HK3 := Lib.hid (HK2.out.next hb3)
    clear hb3 a0 a1 a2 a3 a4 a5 a6 a7 HK2
    obtain ⟨c0, c1, c2, c3, z0, z1, z2, z3⟩ := blk4 HK3.out.b2
    have HK6 := HK3.out.tl.tl.q0 (.int .i64 0) (.int .i64 0) (.int .i64 ib) (.int .i64 ir)
    go_wp2_with fail
    obtain ⟨e0, e1, e2, e3, _⟩ := blk4 HK6.b0
    exact bodyPost_ret (v := .agg #[.int .i64 0, .int .i64 0, .int .i64 ib, .int .i64 ir]) (by simp [results, Tryz.results43, go_sem, e0, e1, e2, e3]) rfl ⟨rfl, HK6.bel⟩
  · skip
    go_enter Tryz.func43, Tryz.ntmps43
    go_wp2_with fail
    refine world_gen (fun V => Bs w [(w.heap.size, 31, fC f), (w.heap.size + 1, 29, bC 0 0 0 0)] V) HK.out ?_
    intro V HV
    replace HV := Lib.hid HV
    have HC := Lib.hid (fun w' (h : Only [] V w') => fra8 (h.blk HV.out.b0 (by simp)))
    clear HK
    refine wp_region_mix_lit (by kernel_rfl) [(3, .call (.agg #[.int .i64 0, .int .i64 0, .int .i64 H, .int .i64 W])), (4, .call (.agg #[.int .i64 it, .int .i64 il, .int .i64 ib, .int .i64 ir])), (5, .alloc 6 29 #[.int .i64 0, .int .i64 0, .int .i64 0, .int .i64 0] (fun _ => #[.int .i64 it, .int .i64 il, .int .i64 ib, .int .i64 ir])), (6, .init 5)] (by kernel_rfl) (by kernel_rfl) (by kernel_rfl) (by rfl) (by simp [apartK] <;> omega) (by simp [startK]) (by simp [stabK]) (⟨fun _ => .pointer (some ⟨V.heap.size, 0, none⟩), by simp [okK]⟩) (fun β hβ => ?_)
    repeat (
      refine lex_val (v := ?_) rfl rfl (fun w' hf => ?_) ?_
      rotate_left
      · obtain ⟨a0, a1, a2, a3, a4, a5, a6, a7⟩ := HC.out w' hf.only; go_simp
        try rfl
      try simp only [Act.put, List.setIfInBounds_toArray, List.set_cons_zero, List.set_cons_succ])
    refine lex_call (f := 42) (args := ?_) rfl rfl (fun w' hf => ?_) (fun w' hf => ?_) ?_
    rotate_left
    · go_simp
      try rfl
    · exact HWh.out w'
    try simp only [Act.put, List.setIfInBounds_toArray, List.set_cons_zero, List.set_cons_succ]
    refine lex_call (f := 87) (args := ?_) rfl rfl (fun w' hf => ?_) (fun w' hf => ?_) ?_
    rotate_left
    · go_simp
      try rfl
    · exact HM.out w'
    try simp only [Act.put, List.setIfInBounds_toArray, List.set_cons_zero, List.set_cons_succ]
    refine lex_alloc rfl rfl (fun w' => ?_) ?_
    · go_simp
    try simp only [Act.put, List.setIfInBounds_toArray, List.set_cons_zero, List.set_cons_succ]
    refine lex_init rfl rfl rfl (fun b w' hb hf hB => ⟨_, ?_, repl4 hB _ _ _ _⟩) ?_
    · have gB := blk4 hB
      go_simp
    try simp only [Act.put]
    refine lex_nil fun w1 he => ?_
    obtain ⟨b9, hb9, hge, hB9⟩ := he.facts 5
    have HK1 := Lib.hid (Bs.made HV.out he.only hge hB9)
    rw [hb9]
    clear hb9 he hβ hge hB9 HC HV
    obtain ⟨c0, c1, c2, c3, _⟩ := blk4 HK1.out.b0
    go_wp2_with fail
    refine (HE.out _).mono ?_
    rintro e w2 ⟨rfl, hb2⟩
    have HK2 := Lib.hid (HK1.out.next hb2)
    clear hb2 c0 c1 c2 c3 HK1
    obtain ⟨a0, a1, a2, a3, _⟩ := blk4 HK2.out.b0
    obtain ⟨c0, c1, c2, c3, z0, z1, z2, z3⟩ := blk4 HK2.out.b2
    have HK6 := HK2.out.tl.tl.q0 (.int .i64 it) (.int .i64 il) (.int .i64 ib) (.int .i64 ir)
    go_wp2_with fail
    obtain ⟨e0, e1, e2, e3, _⟩ := blk4 HK6.b0
    exact bodyPost_ret (v := .agg #[.int .i64 it, .int .i64 il, .int .i64 ib, .int .i64 ir]) (by simp [results, Tryz.results43, go_sem, e0, e1, e2, e3]) rfl ⟨rfl, HK6.bel⟩


end Go.Proofs.YtfnamfkjbkhgeaaGreatDoor

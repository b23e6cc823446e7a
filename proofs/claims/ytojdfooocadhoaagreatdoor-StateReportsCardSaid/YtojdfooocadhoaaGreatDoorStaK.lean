/-
  The numbers of a core, and their report, by the document.
-/
import Derived.Test.YtojdfooocadhoaaGreatDoorStaH
namespace Go.Proofs.YtojdfooocadhoaaGreatDoor

open Go Go.RowKit

theorem oneN_any (b : Bool) (V : World) : Calls Tryz.prog 30 #[.bool b] V fun e w' => e = .returned (.int .i64 (b.toNat : Int)) ∧ Below V.heap.size V w' :=
  (one_any b V).mono (by rintro e w'' ⟨rfl, rfl⟩; exact ⟨rfl, Below.refl _ _⟩)
theorem report_text (ns : List Int) (h : ns.length = 12) : fmtT ns 12 = joinT (ns.map itT) := by
  rw [fmtT_join ns 12 (by omega), List.take_of_length_le (by omega)]
  unfold joinT bytesOf
  rw [List.map_map]
  congr 3
set_option maxRecDepth 100000 in
set_option maxHeartbeats 8000000 in
theorem refNumbers_any {x : Co} {H W it il ib ir : Int} (h : FrOk x.f H W it il ib ir) (hr0 : 0 ≤ x.K.rd) (hr1 : x.K.rd ≤ 255) (w : World) :
    Calls Tryz.prog 51 #[coV .i64 x] w fun e w' => ∃ g, e = .returned (.slice (some ⟨g, 0, none⟩) 12 12) ∧ Blk w' g 3 ((nbrP (clnP x H W it il ib ir)).map (Value.int .i64)).toArray ∧ w.heap.size ≤ g ∧ Below w.heap.size w w' := by
  have HCl := Lib.hid (fun V => refCleanC_any h hr0 hr1 V)
  have hk := cl_ok h
  obtain ⟨y, hy⟩ : ∃ y, y = clnP x H W it il ib ir := ⟨_, rfl⟩
  rw [← hy] at HCl hk ⊢
  clear h hr0 hr1 hy
  have HB1 := Lib.hid (oneN_any y.eg); have HB2 := Lib.hid (oneN_any y.st); have HB3 := Lib.hid (oneN_any y.bl); have HB4 := Lib.hid (oneN_any y.K.og)
  have hm := hk.m
  have e1 : Int.tdiv (y.m : Int) 4096 = ((y.m / 4096 : Nat) : Int) := by rw [Int.tdiv_eq_ediv_of_nonneg (by omega)]; omega
  have e2 : Int.tmod (y.m : Int) 4096 = ((y.m % 4096 : Nat) : Int) := by rw [Int.tmod_eq_emod_of_nonneg (by omega)]; omega
  have w3 : IntKind.i64.wrap ((y.m / 4096 : Nat) : Int) = ((y.m / 4096 : Nat) : Int) := IntWalk.i64_in _ (by omega)
  have w4 : IntKind.i64.wrap ((y.m % 4096 : Nat) : Int) = ((y.m % 4096 : Nat) : Int) := IntWalk.i64_in _ (by omega)
  unfold nbrP
  simp only [List.map_cons, List.map_nil]
  have hS1 := coS .i64 x; have hS2 := coS .i64 y; have hO2 := co_one .i64 y
  unfold coV at *
  generalize coC .i64 x = X at *
  generalize hY : coC .i64 y = Y at *
  replace hY := Lib.hid hY
  have HS := Lib.hid ((Bs.nil w).alloc 33 X)
  clear hk hm
  obtain ⟨r, c, wp, ⟨rd, kp, og, a, b, cc, d, l, rr, s⟩, ⟨pt, pl, pb, pr, mt, ml, mb, mr⟩, m, lv, eg, st, su, bl, pg, ps⟩ := y
  simp only [coC] at *
  generalize ((m / 4096 : Nat) : Int) = q1 at *
  generalize ((m % 4096 : Nat) : Int) = q2 at *
  generalize (m : Int) = mz at *
  generalize (eg.toNat : Int) = eb at *
  generalize (st.toNat : Int) = sb at *
  generalize (bl.toNat : Int) = bb at *
  generalize (og.toNat : Int) = ob at *
  go_enter Tryz.func51, Tryz.ntmps51
  go_wp2_with (first | (refine wpList_load_row rfl _ _ rfl w.heap.size rfl _ X (0, 0) _ HS.out.b0 under_cr rfl (by rw [hS1]; exact info_cr) ?_))
  refine (HCl.out _).mono ?_
  rintro e w1 ⟨rfl, hb⟩
  have HK1 := Lib.hid (HS.out.next hb)
  clear hb HS
  go_upto_region 2 with (refine wpList_store_row rfl _ _ _ rfl w.heap.size Y rfl rfl _ _ HK1.out.b0 (by rw [hS2]; exact info_cr) (by rw [hS1, hS2]) hO2 ?_)
  refine world_gen (fun V => Bs w [(w.heap.size, 33, Y)] V) (HK1.out.row Y) ?_
  intro w2 HV0
  replace HV0 := Lib.hid HV0
  clear HK1 HCl hS1 hS2 hO2
  rw [← hY.out] at HV0
  clear hY
  --#1
  have c17 : w2.cell? ⟨w.heap.size, 17, none⟩ = some (.int .i64 mt) := Blk.cell HV0.out.b0 17
  have c18 : w2.cell? ⟨w.heap.size, 18, none⟩ = some (.int .i64 ml) := Blk.cell HV0.out.b0 18
  have c19 : w2.cell? ⟨w.heap.size, 19, none⟩ = some (.int .i64 mb) := Blk.cell HV0.out.b0 19
  have c20 : w2.cell? ⟨w.heap.size, 20, none⟩ = some (.int .i64 mr) := Blk.cell HV0.out.b0 20
  go_upto_region 3 with fail
  refine world_gen (fun V => Bs w [(w2.heap.size, 29, #[.int .i64 mt, .int .i64 ml, .int .i64 mb, .int .i64 mr]), (w.heap.size, 33, #[.int .i64 r, .int .i64 c, .int .u8 rd, .bool kp, .bool wp, .bool og, .int .i64 a, .int .i64 b, .int .i64 cc, .int .i64 d, .int .i64 l, .int .i64 rr, .int .i64 s, .int .i64 pt, .int .i64 pl, .int .i64 pb, .int .i64 pr, .int .i64 mt, .int .i64 ml, .int .i64 mb, .int .i64 mr, .int .i64 mz, .int .i64 lv, .bool eg, .bool st, .int .i64 su, .bool bl, .int .i64 pg, .int .i64 ps])] V) (HV0.out.alloc 29 #[.int .i64 mt, .int .i64 ml, .int .i64 mb, .int .i64 mr]) ?_
  intro V1 HV1
  generalize w2.heap.size = b8 at *
  replace HV1 := Lib.hid HV1
  clear HV0 c17 c18 c19 c20
  have HC := Lib.hid (fun w' (h : Only [] V1 w') => And.intro (co29 (h.blk HV1.out.b1 (by simp))) (blk4 (h.blk HV1.out.b0 (by simp))))
  --#2
  refine wp_region_mix_lit (by kernel_rfl) [(4, .call (.int .i64 eb)), (13, .call (.int .i64 sb)), (18, .call (.int .i64 bb)), (30, .call (.int .i64 ob)), (31, .letter (INP 12) (INF V1.heap.size [lv, eb, q1, q2, sb, su, bb, mt, ml, mb, mr, ob]))] (by kernel_rfl) (by kernel_rfl) (by kernel_rfl) (by rfl) (by simp [apartK] <;> omega) (by simp [startK]) (by simp only [List.forall_mem_cons]; exact ⟨trivial, trivial, trivial, trivial, inF_stab _ _ _ (by simp [boxes, Kind.boxed]), by simp⟩) (⟨fun _ => .slice (some ⟨0, 0, none⟩) 12 12, by simp only [List.forall_mem_cons]; exact ⟨trivial, trivial, trivial, trivial, ⟨0, rfl⟩, by simp⟩⟩) (fun β hβ => ?_)
  repeat (
    refine lex_val (v := ?_) rfl rfl (fun w' hf => ?_) ?_
    rotate_left
    · obtain ⟨⟨c0, c1, c2, c3, c4, c5, c6, c7, c8, c9, c10, c11, c12, c13, c14, c15, c16, c17, c18, c19, c20, c21, c22, c23, c24, c25, c26, c27, c28⟩, d0, d1, d2, d3, _⟩ := HC.out w' hf.only; go_simp
      try rfl
    try simp only [Act.put, List.setIfInBounds_toArray, List.set_cons_zero, List.set_cons_succ])
  refine lex_call (f := 30) (args := ?_) rfl rfl (fun w' hf => ?_) (fun w' hf => ?_) ?_
  rotate_left
  · go_simp
    try rfl
  · exact HB1.out w'
  try simp only [Act.put, List.setIfInBounds_toArray, List.set_cons_zero, List.set_cons_succ]
  repeat (
    refine lex_val (v := ?_) rfl rfl (fun w' hf => ?_) ?_
    rotate_left
    · obtain ⟨⟨c0, c1, c2, c3, c4, c5, c6, c7, c8, c9, c10, c11, c12, c13, c14, c15, c16, c17, c18, c19, c20, c21, c22, c23, c24, c25, c26, c27, c28⟩, d0, d1, d2, d3, _⟩ := HC.out w' hf.only; go_simp
      try rfl
    try simp only [Act.put, List.setIfInBounds_toArray, List.set_cons_zero, List.set_cons_succ])
  refine lex_call (f := 30) (args := ?_) rfl rfl (fun w' hf => ?_) (fun w' hf => ?_) ?_
  rotate_left
  · go_simp
    try rfl
  · exact HB2.out w'
  try simp only [Act.put, List.setIfInBounds_toArray, List.set_cons_zero, List.set_cons_succ]
  repeat (
    refine lex_val (v := ?_) rfl rfl (fun w' hf => ?_) ?_
    rotate_left
    · obtain ⟨⟨c0, c1, c2, c3, c4, c5, c6, c7, c8, c9, c10, c11, c12, c13, c14, c15, c16, c17, c18, c19, c20, c21, c22, c23, c24, c25, c26, c27, c28⟩, d0, d1, d2, d3, _⟩ := HC.out w' hf.only; go_simp
      try rfl
    try simp only [Act.put, List.setIfInBounds_toArray, List.set_cons_zero, List.set_cons_succ])
  refine lex_call (f := 30) (args := ?_) rfl rfl (fun w' hf => ?_) (fun w' hf => ?_) ?_
  rotate_left
  · go_simp
    try rfl
  · exact HB3.out w'
  try simp only [Act.put, List.setIfInBounds_toArray, List.set_cons_zero, List.set_cons_succ]
  repeat (
    refine lex_val (v := ?_) rfl rfl (fun w' hf => ?_) ?_
    rotate_left
    · obtain ⟨⟨c0, c1, c2, c3, c4, c5, c6, c7, c8, c9, c10, c11, c12, c13, c14, c15, c16, c17, c18, c19, c20, c21, c22, c23, c24, c25, c26, c27, c28⟩, d0, d1, d2, d3, _⟩ := HC.out w' hf.only; go_simp
      try rfl
    try simp only [Act.put, List.setIfInBounds_toArray, List.set_cons_zero, List.set_cons_succ])
  refine lex_call (f := 30) (args := ?_) rfl rfl (fun w' hf => ?_) (fun w' hf => ?_) ?_
  rotate_left
  · go_simp
    try rfl
  · exact HB4.out w'
  try simp only [Act.put, List.setIfInBounds_toArray, List.set_cons_zero, List.set_cons_succ]
  --#3
  refine lex_made rfl rfl (fun w' hf => ⟨.slice (some ⟨w'.heap.size, 0, none⟩) 12 12, w'.alloc (.cells #[.int .i64 lv, .int .i64 eb, .int .i64 q1, .int .i64 q2, .int .i64 sb, .int .i64 su, .int .i64 bb, .int .i64 mt, .int .i64 ml, .int .i64 mb, .int .i64 mr, .int .i64 ob] 3), ?_, ⟨_, rfl⟩, ⟨_, rfl, hf.only.size, Blk.new _ _ _⟩, (Below.refl _ _).alloc (Nat.le_refl _) _⟩) ?_
  · go_simp
  try simp only [Act.put, List.setIfInBounds_toArray, List.set_cons_zero, List.set_cons_succ]
  repeat (
    refine lex_val (v := ?_) rfl rfl (fun w' hf => ?_) ?_
    rotate_left
    · go_simp
      try rfl
    try simp only [Act.put, List.setIfInBounds_toArray, List.set_cons_zero, List.set_cons_succ])
  refine lex_nil fun w5 he => ?_
  have h7 : INF V1.heap.size [lv, eb, q1, q2, sb, su, bb, mt, ml, mb, mr, ob] (β 31) w5 := (he.facts 31).2
  obtain ⟨g7, e7, hg7, hB7⟩ := h7
  rw [e7]
  have HK3 := Lib.hid (HV1.out.bel.trans (he.only.below0.mono HV1.out.bel.size))
  have hg := HV1.out.bel.size
  clear he e7 hβ HC
  --#4
  go_wp2_with fail
  go_ret
  exact ⟨g7, rfl, hB7, by omega, HK3.out⟩
set_option maxRecDepth 100000 in
set_option maxHeartbeats 8000000 in
theorem refRep_any {x : Co} {H W it il ib ir : Int} (h : FrOk x.f H W it il ib ir) (hr0 : 0 ≤ x.K.rd) (hr1 : x.K.rd ≤ 255) (w : World) :
    Calls Tryz.prog 17 #[coV .i64 x] w fun e w' => e = .returned (.string (joinT ((nbrP (clnP x H W it il ib ir)).map itT))) ∧ Below w.heap.size w w' := by
  have HNu := Lib.hid (fun V => refNumbers_any h hr0 hr1 V)
  have HIn := Lib.hid (num_in (cl_ok h))
  have hl12 : (nbrP (clnP x H W it il ib ir)).length = 12 := rfl
  generalize nbrP (clnP x H W it il ib ir) = ns at *
  have HE := Lib.hid (report_text ns hl12)
  generalize joinT (ns.map itT) = out at *
  have hS1 := coS .i64 x
  unfold coV at *
  generalize coC .i64 x = X at *
  have HS := Lib.hid ((Bs.nil w).alloc 33 X)
  clear h hr0 hr1
  go_enter Tryz.func17, Tryz.ntmps17
  go_wp2_with (first | (refine wpList_load_row rfl _ _ rfl w.heap.size rfl _ X (0, 0) _ HS.out.b0 under_cr rfl (by rw [hS1]; exact info_cr) ?_))
  refine (HNu.out _).mono ?_
  rintro e w1 ⟨g, rfl, hgB, hge, hb⟩
  have HK1 := Lib.hid (HS.out.bel.trans (hb.mono HS.out.bel.size))
  have HG := Lib.hid hgB
  clear hb HS HNu hgB hge
  go_wp2_with fail
  --#r1
  go_loopw [3, 5] (fun t i wr => ∃ (k : Nat), k ≤ 12 ∧ i = .int .i64 k ∧ t = .string (fmtT ns k) ∧ Blk wr g 3 (ns.map (Value.int .i64)).toArray ∧ Below w.heap.size w wr) (fun _ i _ => 12 - (intOf i).toNat)
  case atStart => exact ⟨0, by omega, rfl, rfl, HG.out, HK1.out⟩
  case round =>
    obtain ⟨k, hk, rfl, rfl, hgk, hb⟩ := hrel
    by_cases hlt : k < 12
    · have hlt' : k < ns.length := by omega
      have hg : ns.getD k 0 = ns[k] := by simp [List.getD, List.getElem?_eq_getElem hlt']
      have HSt : Hid (fmtT ns (k + 1) = (if 0 < k then fmtT ns k ++ ⟨#[59]⟩ else fmtT ns k) ++ bytesOf (digs ns[k])) := Lib.hid (by rw [fmtT, hg])
      have hsz := fmtT_size ns k
      have hds : (bytesOf (digs ns[k])).size ≤ 5 := by
        have h2 := digs_len ns[k]
        show (digs ns[k]).toArray.size ≤ 5
        simpa using h2
      have hcell : wr.cell? ⟨g, k, none⟩ = some (.int .i64 ns[k]) := (Blk.cell hgk k).trans (by rw [List.getElem?_toArray, List.getElem?_map, List.getElem?_eq_getElem hlt']; rfl)
      have hin := HIn.out ns[k] (List.getElem_mem _)
      have HD : Hid (∀ W : World, Calls Tryz.prog 52 #[.int .i64 ns[k]] W fun e w' => e = .returned (.string (bytesOf (digs ns[k]))) ∧ Below W.heap.size W w') := Lib.hid (fun W => by
        have e : digs ns[k] = Lib.decDigits ns[k].toNat := by unfold digs; rw [show clipP ns[k] 0 65535 = ns[k] from by unfold clipP; omega]
        have := decimal_any 4 ns[k].toNat (by omega) (by omega) W
        rw [← e, show ((ns[k].toNat : Nat) : Int) = ns[k] from by omega] at this
        exact this)
      have HB := Lib.hid hb; have HGk := Lib.hid hgk
      clear hg hin
      generalize fmtT ns k = T at *
      generalize bytesOf (digs ns[k]) = D at *
      generalize ns[k] = x at *
      have hT : T.size ≤ 180 := by omega
      have hk0 : (decide (0 < k) = true ∧ 0 < k) ∨ (decide (0 < k) = false ∧ k = 0) := by
        rcases Nat.eq_zero_or_pos k with h | h
        · exact .inr ⟨by simp; omega, h⟩
        · exact .inl ⟨by simp; omega, h⟩
      clear hsz hb hgk HG HK1
      rcases hk0 with ⟨hd0, h0⟩ | ⟨hd0, h0⟩
      all_goals
        have H0 := Lib.hid h0
        clear h0
        go_wp2_with (go_at_call 52; (with_reducible refine (HD.out _).mono ?_); rintro e w1 ⟨rfl, hb1⟩)
        go_roundw
        case rel => exact ⟨k + 1, by omega, by go_num, by rw [HSt.out]; first | rw [if_pos H0.out] | rw [if_neg (by rw [H0.out]; omega)], HGk.out.next hb1, HB.out.trans (hb1.mono HB.out.size)⟩
        case measure => simp [intOf]; omega
    · obtain rfl : k = 12 := by omega
      rw [HE.out]
      have HB := Lib.hid hb
      clear HE hgk hb HG HK1 HIn
      --#r5
      go_wp2_with fail
      go_ret
      exact ⟨rfl, HB.out⟩
end Go.Proofs.YtojdfooocadhoaaGreatDoor

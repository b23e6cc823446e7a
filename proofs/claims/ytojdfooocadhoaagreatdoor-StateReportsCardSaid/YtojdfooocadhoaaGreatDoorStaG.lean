/-
  The numbers of a core, and their report, by the program.
-/
import Derived.Test.YtojdfooocadhoaaGreatDoorStaF
namespace Go.Proofs.YtojdfooocadhoaaGreatDoor

open Go Go.RowKit

def nbrP (y : Co) : List Int := [y.lv, y.eg.toNat, (y.m / 4096 : Nat), (y.m % 4096 : Nat), y.st.toNat, y.su, y.bl.toNat, y.f.mt, y.f.ml, y.f.mb, y.f.mr, y.K.og.toNat]
theorem bitB_any (b : Bool) (V : World) : Calls Tryz.prog 27 #[.bool b] V fun e w' => e = .returned (.int .i64 (b.toNat : Int)) ∧ Below V.heap.size V w' :=
  (bit_any b V).mono (by rintro e w'' ⟨rfl, rfl⟩; exact ⟨rfl, Below.refl _ _⟩)
theorem num_in {y : Co} (h : ClOk y) : ∀ n ∈ nbrP y, 0 ≤ n ∧ n ≤ 65535 := by
  have b : ∀ b : Bool, (b.toNat : Int) ≤ 1 := fun b => by cases b <;> decide
  have b1 := b y.eg; have b2 := b y.st; have b3 := b y.bl; have b4 := b y.K.og
  have h1 := h.lv; have h2 := h.su; have h3 := h.m; have h4 := h.h2; have h5 := h.h3; have h6 := h.h4; have h7 := h.h5
  intro n hn
  simp only [nbrP, List.mem_cons, List.not_mem_nil, or_false] at hn
  rcases hn with rfl | rfl | rfl | rfl | rfl | rfl | rfl | rfl | rfl | rfl | rfl | rfl <;> omega
def a12 (ns : List Int) : Value := .agg (ns.map (Value.int .i64)).toArray
set_option maxRecDepth 100000 in
set_option maxHeartbeats 8000000 in
theorem numbers_any (y : Co) (hm : y.m < 131072) (w : World) : Calls Tryz.prog 49 #[coV .u32 y] w fun e w' => e = .returned (a12 (nbrP y)) ∧ Below w.heap.size w w' := by
  have HB1 := Lib.hid (bitB_any y.eg); have HB2 := Lib.hid (bitB_any y.st); have HB3 := Lib.hid (bitB_any y.bl); have HB4 := Lib.hid (bitB_any y.K.og)
  have e1 : Int.tdiv (y.m : Int) 4096 = ((y.m / 4096 : Nat) : Int) := by rw [Int.tdiv_eq_ediv_of_nonneg (by omega)]; omega
  have e2 : Int.tmod (y.m : Int) 4096 = ((y.m % 4096 : Nat) : Int) := by rw [Int.tmod_eq_emod_of_nonneg (by omega)]; omega
  have w1 : IntKind.u32.wrap ((y.m / 4096 : Nat) : Int) = ((y.m / 4096 : Nat) : Int) := by have := wrap_bv32 (BitVec.ofNat 32 (y.m / 4096)); rwa [bv_eq (by omega)] at this
  have w2 : IntKind.u32.wrap ((y.m % 4096 : Nat) : Int) = ((y.m % 4096 : Nat) : Int) := by have := wrap_bv32 (BitVec.ofNat 32 (y.m % 4096)); rwa [bv_eq (by omega)] at this
  have w3 : IntKind.i64.wrap ((y.m / 4096 : Nat) : Int) = ((y.m / 4096 : Nat) : Int) := IntWalk.i64_in _ (by omega)
  have w4 : IntKind.i64.wrap ((y.m % 4096 : Nat) : Int) = ((y.m % 4096 : Nat) : Int) := IntWalk.i64_in _ (by omega)
  unfold a12 nbrP coV
  simp only [List.map_cons, List.map_nil]
  clear hm
  obtain ⟨r, c, wp, ⟨rd, kp, og, a, b, cc, d, l, rr, s⟩, ⟨pt, pl, pb, pr, mt, ml, mb, mr⟩, m, lv, eg, st, su, bl, pg, ps⟩ := y
  simp only [coC] at *
  generalize ((m / 4096 : Nat) : Int) = q1 at *
  generalize ((m % 4096 : Nat) : Int) = q2 at *
  generalize (m : Int) = mz at *
  generalize (eg.toNat : Int) = eb at *
  generalize (st.toNat : Int) = sb at *
  generalize (bl.toNat : Int) = bb at *
  generalize (og.toNat : Int) = ob at *
  have HS := Lib.hid (Bs.start2 w 45 101 #[.int .i64 r, .int .i64 c, .int .u8 rd, .bool kp, .bool wp, .bool og, .int .i64 a, .int .i64 b, .int .i64 cc, .int .i64 d, .int .i64 l, .int .i64 rr, .int .i64 s, .int .i64 pt, .int .i64 pl, .int .i64 pb, .int .i64 pr, .int .i64 mt, .int .i64 ml, .int .i64 mb, .int .i64 mr, .int .u32 mz, .int .i64 lv, .bool eg, .bool st, .int .i64 su, .bool bl, .int .i64 pg, .int .i64 ps] #[.int .i64 0, .int .i64 0, .int .i64 0, .int .i64 0, .int .i64 0, .int .i64 0, .int .i64 0, .int .i64 0, .int .i64 0, .int .i64 0, .int .i64 0, .int .i64 0])
  go_enter Tryz.func49, Tryz.ntmps49
  go_upto_region 1 with fail
  refine world_gen (fun W => Bs w [(w.heap.size + 1, 101, #[.int .i64 0, .int .i64 0, .int .i64 0, .int .i64 0, .int .i64 0, .int .i64 0, .int .i64 0, .int .i64 0, .int .i64 0, .int .i64 0, .int .i64 0, .int .i64 0]), (w.heap.size, 45, #[.int .i64 r, .int .i64 c, .int .u8 rd, .bool kp, .bool wp, .bool og, .int .i64 a, .int .i64 b, .int .i64 cc, .int .i64 d, .int .i64 l, .int .i64 rr, .int .i64 s, .int .i64 pt, .int .i64 pl, .int .i64 pb, .int .i64 pr, .int .i64 mt, .int .i64 ml, .int .i64 mb, .int .i64 mr, .int .u32 mz, .int .i64 lv, .bool eg, .bool st, .int .i64 su, .bool bl, .int .i64 pg, .int .i64 ps])] W) HS.out ?_
  intro W HW
  replace HW := Lib.hid HW
  have HC := Lib.hid (fun w' (h : Only [w.heap.size + 1] W w') => co29 (h.blk HW.out.b1 (by simp)))
  clear HS
  --#1
  refine wp_region_mix_lit (by kernel_rfl) [(4, .call (.int .i64 eb)), (15, .call (.int .i64 sb)), (20, .call (.int .i64 bb)), (40, .call (.int .i64 ob)), (42, .store (w.heap.size + 1) 101 #[.int .i64 0, .int .i64 0, .int .i64 0, .int .i64 0, .int .i64 0, .int .i64 0, .int .i64 0, .int .i64 0, .int .i64 0, .int .i64 0, .int .i64 0, .int .i64 0] (fun _ => #[.int .i64 lv, .int .i64 eb, .int .i64 q1, .int .i64 q2, .int .i64 sb, .int .i64 su, .int .i64 bb, .int .i64 mt, .int .i64 ml, .int .i64 mb, .int .i64 mr, .int .i64 ob]))] (by kernel_rfl) (by kernel_rfl) (by kernel_rfl) (by rfl) (by simp [apartK] <;> omega) (by simp [startK]; exact HW.out.b0) (by simp [stabK]) (⟨fun _ => undef, by simp [okK]⟩) (fun β hβ => ?_)
  repeat (
    refine lex_val (v := ?_) rfl rfl (fun w' hf => ?_) ?_
    rotate_left
    · obtain ⟨c0, c1, c2, c3, c4, c5, c6, c7, c8, c9, c10, c11, c12, c13, c14, c15, c16, c17, c18, c19, c20, c21, c22, c23, c24, c25, c26, c27, c28⟩ := HC.out w' hf.only; go_simp
      try rfl
    try simp only [Act.put, List.setIfInBounds_toArray, List.set_cons_zero, List.set_cons_succ])
  --#n0
  refine lex_call (f := 27) (args := ?_) rfl rfl (fun w' hf => ?_) (fun w' hf => ?_) ?_
  rotate_left
  · go_simp
    try rfl
  · exact HB1.out w'
  try simp only [Act.put, List.setIfInBounds_toArray, List.set_cons_zero, List.set_cons_succ]
  repeat (
    refine lex_val (v := ?_) rfl rfl (fun w' hf => ?_) ?_
    rotate_left
    · obtain ⟨c0, c1, c2, c3, c4, c5, c6, c7, c8, c9, c10, c11, c12, c13, c14, c15, c16, c17, c18, c19, c20, c21, c22, c23, c24, c25, c26, c27, c28⟩ := HC.out w' hf.only; go_simp
      try rfl
    try simp only [Act.put, List.setIfInBounds_toArray, List.set_cons_zero, List.set_cons_succ])
  --#n1
  refine lex_call (f := 27) (args := ?_) rfl rfl (fun w' hf => ?_) (fun w' hf => ?_) ?_
  rotate_left
  · go_simp
    try rfl
  · exact HB2.out w'
  try simp only [Act.put, List.setIfInBounds_toArray, List.set_cons_zero, List.set_cons_succ]
  repeat (
    refine lex_val (v := ?_) rfl rfl (fun w' hf => ?_) ?_
    rotate_left
    · obtain ⟨c0, c1, c2, c3, c4, c5, c6, c7, c8, c9, c10, c11, c12, c13, c14, c15, c16, c17, c18, c19, c20, c21, c22, c23, c24, c25, c26, c27, c28⟩ := HC.out w' hf.only; go_simp
      try rfl
    try simp only [Act.put, List.setIfInBounds_toArray, List.set_cons_zero, List.set_cons_succ])
  --#n2
  refine lex_call (f := 27) (args := ?_) rfl rfl (fun w' hf => ?_) (fun w' hf => ?_) ?_
  rotate_left
  · go_simp
    try rfl
  · exact HB3.out w'
  try simp only [Act.put, List.setIfInBounds_toArray, List.set_cons_zero, List.set_cons_succ]
  repeat (
    refine lex_val (v := ?_) rfl rfl (fun w' hf => ?_) ?_
    rotate_left
    · obtain ⟨c0, c1, c2, c3, c4, c5, c6, c7, c8, c9, c10, c11, c12, c13, c14, c15, c16, c17, c18, c19, c20, c21, c22, c23, c24, c25, c26, c27, c28⟩ := HC.out w' hf.only; go_simp
      try rfl
    try simp only [Act.put, List.setIfInBounds_toArray, List.set_cons_zero, List.set_cons_succ])
  --#n3
  refine lex_call (f := 27) (args := ?_) rfl rfl (fun w' hf => ?_) (fun w' hf => ?_) ?_
  rotate_left
  · go_simp
    try rfl
  · exact HB4.out w'
  try simp only [Act.put, List.setIfInBounds_toArray, List.set_cons_zero, List.set_cons_succ]
  repeat (
    refine lex_val (v := ?_) rfl rfl (fun w' hf => ?_) ?_
    rotate_left
    · go_simp
      try rfl
    try simp only [Act.put, List.setIfInBounds_toArray, List.set_cons_zero, List.set_cons_succ])
  --#2
  refine lex_store rfl rfl (fun w' hf hB => ⟨_, exec_store_row 101 (.tmp 2) (.tmp 44) rfl rfl rfl hB (by kernel_rfl) rfl (by kernel_rfl), row_repl hB _⟩) ?_
  try simp only [Act.put]
  refine lex_nil fun w5 he => ?_
  have hb9 : Blk w5 (w.heap.size + 1) 101 #[.int .i64 lv, .int .i64 eb, .int .i64 q1, .int .i64 q2, .int .i64 sb, .int .i64 su, .int .i64 bb, .int .i64 mt, .int .i64 ml, .int .i64 mb, .int .i64 mr, .int .i64 ob] := he.facts 42
  have HK1 := Lib.hid (Bs.mix HW.out he.only hb9)
  clear he hb9 HW HC hβ
  --#3
  repeat go_step
  refine bodyPost_ret (v := .agg #[.int .i64 lv, .int .i64 eb, .int .i64 q1, .int .i64 q2, .int .i64 sb, .int .i64 su, .int .i64 bb, .int .i64 mt, .int .i64 ml, .int .i64 mb, .int .i64 mr, .int .i64 ob]) (results_cell_row rfl _ _ (w.heap.size + 1) 101 #[.int .i64 lv, .int .i64 eb, .int .i64 q1, .int .i64 q2, .int .i64 sb, .int .i64 su, .int .i64 bb, .int .i64 mt, .int .i64 ml, .int .i64 mb, .int .i64 mr, .int .i64 ob] (0, 0) _ rfl HK1.out.b0 Tryz.underlying101 rfl (by kernel_rfl)) rfl ⟨rfl, HK1.out.bel⟩
theorem idx12 (n0 n1 n2 n3 n4 n5 n6 n7 n8 n9 n10 n11 : Int) : ∀ k : Nat, k < 12 → ∀ W : World, (Instr.index 101 (.agg #[.int .i64 n0, .int .i64 n1, .int .i64 n2, .int .i64 n3, .int .i64 n4, .int .i64 n5, .int .i64 n6, .int .i64 n7, .int .i64 n8, .int .i64 n9, .int .i64 n10, .int .i64 n11]) (.int .i64 k)).run Tryz.prog W = .ok (.int .i64 ([n0, n1, n2, n3, n4, n5, n6, n7, n8, n9, n10, n11].getD k 0)) W
  | 0, _ => fun W => by kernel_rfl
  | 1, _ => fun W => by kernel_rfl
  | 2, _ => fun W => by kernel_rfl
  | 3, _ => fun W => by kernel_rfl
  | 4, _ => fun W => by kernel_rfl
  | 5, _ => fun W => by kernel_rfl
  | 6, _ => fun W => by kernel_rfl
  | 7, _ => fun W => by kernel_rfl
  | 8, _ => fun W => by kernel_rfl
  | 9, _ => fun W => by kernel_rfl
  | 10, _ => fun W => by kernel_rfl
  | 11, _ => fun W => by kernel_rfl
  | n + 12, h => absurd h (by omega)
def strsK (ns : List Int) (k : Nat) : Array Value := ((ns.take k).map (fun n => Value.string (itT n)) ++ List.replicate (12 - k) (Value.string ⟨#[]⟩)).toArray
theorem strsK_size (ns : List Int) (h : ns.length = 12) (k : Nat) (hk : k ≤ 12) : (strsK ns k).size = 12 := by unfold strsK; simp; omega
theorem strsK_at (ns : List Int) (h : ns.length = 12) (k : Nat) (hk : k < 12) : (strsK ns k)[k]? = some (.string ⟨#[]⟩) := by
  unfold strsK
  have hl : ((ns.take k).map (fun n => Value.string (itT n))).length = k := by simp; omega
  rw [List.getElem?_toArray, List.getElem?_append_right (by omega), hl, Nat.sub_self, show 12 - k = (12 - (k + 1)) + 1 from by omega, List.replicate_succ]
  rfl
theorem strsK_next (ns : List Int) (h : ns.length = 12) (k : Nat) (hk : k < 12) : (strsK ns k).setIfInBounds k (.string (itT (ns.getD k 0))) = strsK ns (k + 1) := by
  unfold strsK
  rw [List.setIfInBounds_toArray]
  congr 1
  have hl : ((ns.take k).map (fun n => Value.string (itT n))).length = k := by simp; omega
  rw [List.set_append, if_neg (by omega), hl, Nat.sub_self, show 12 - k = (12 - (k + 1)) + 1 from by omega, List.replicate_succ, List.set_cons_zero]
  have hk' : k < ns.length := by omega
  rw [← List.take_append_getElem hk', List.map_append, List.append_assoc]
  simp [List.getD, List.getElem?_eq_getElem hk']
theorem strsK_end (ns : List Int) (h : ns.length = 12) : strsK ns 12 = ((ns.map itT).map Value.string).toArray := by
  unfold strsK
  rw [List.take_of_length_le (by omega)]
  simp
set_option maxRecDepth 100000 in
set_option maxHeartbeats 8000000 in
theorem rep_any {x : Co} {H W it il ib ir : Int} (h : FrOk x.f H W it il ib ir) (hr0 : 0 ≤ x.K.rd) (hr1 : x.K.rd ≤ 255) (hm : x.m < 2 ^ 32) (w : World) (ht : Tab w) (hfc : Faces w) (htn : Ten w) :
    Calls Tryz.prog 16 #[coV .u32 x] w fun e w' => e = .returned (.string (joinT ((nbrP (clnP x H W it il ib ir)).map itT))) ∧ Below w.heap.size w w' := by
  have HCl := Lib.hid (fun V t f => cleanC_any h hr0 hr1 hm V t f)
  have hk := cl_ok h
  have HT := Lib.hid ht; have HF := Lib.hid hfc; have HTn := Lib.hid htn
  obtain ⟨y, hy⟩ : ∃ y, y = clnP x H W it il ib ir := ⟨_, rfl⟩
  rw [← hy] at HCl hk ⊢
  clear h hr0 hr1 hm ht hfc htn hy
  have HNu := Lib.hid (fun V => numbers_any y hk.m V)
  have HIn := Lib.hid (num_in hk)
  have hn12 : (nbrP y).length = 12 := rfl
  obtain ⟨n0, n1, n2, n3, n4, n5, n6, n7, n8, n9, n10, n11, hns⟩ : ∃ n0 n1 n2 n3 n4 n5 n6 n7 n8 n9 n10 n11 : Int, nbrP y = [n0, n1, n2, n3, n4, n5, n6, n7, n8, n9, n10, n11] := ⟨_, _, _, _, _, _, _, _, _, _, _, _, rfl⟩
  rw [hns] at HNu HIn ⊢
  have hIx := Lib.hid (idx12 n0 n1 n2 n3 n4 n5 n6 n7 n8 n9 n10 n11)
  clear hns hn12
  have hl12 : [n0, n1, n2, n3, n4, n5, n6, n7, n8, n9, n10, n11].length = 12 := rfl
  obtain ⟨ns, hns⟩ : ∃ ns, ns = [n0, n1, n2, n3, n4, n5, n6, n7, n8, n9, n10, n11] := ⟨_, rfl⟩
  have HIt := Lib.hid (fun n h0 h1 V t => itT_any n h0 h1 V t)
  have HJ := Lib.hid (fun bk V hbk hc => joinS_any bk 12 (ns.map itT) (by rw [List.length_map, hns]; show 12 ≤ 30; omega) (fun x hx => by obtain ⟨y, _, rfl⟩ := List.mem_map.1 hx; exact Nat.le_trans (itT_len y) (by omega)) (by rw [List.length_map, hns]; exact Nat.le_refl 12) V hbk hc)
  rw [List.length_map, show ns.length = 12 from by rw [hns]; rfl] at HJ
  rw [← hns] at HIn hIx hl12 ⊢
  generalize joinT (ns.map itT) = out at *
  unfold a12 at HNu
  simp only [List.map_cons, List.map_nil] at HNu
  clear hns
  have hS1 := coS .u32 x; have hS2 := coS .u32 y
  unfold coV at *
  generalize coC .u32 x = X at *
  generalize coC .u32 y = Y at *
  have HS := Lib.hid (Bs.start2 w 45 104 X #[.string ⟨#[]⟩, .string ⟨#[]⟩, .string ⟨#[]⟩, .string ⟨#[]⟩, .string ⟨#[]⟩, .string ⟨#[]⟩, .string ⟨#[]⟩, .string ⟨#[]⟩, .string ⟨#[]⟩, .string ⟨#[]⟩, .string ⟨#[]⟩, .string ⟨#[]⟩])
  go_enter Tryz.func16, Tryz.ntmps16
  go_upto_region 2 with fail
  --#r1
  refine world_gen (fun V => Bs w [(w.heap.size + 1, 104, #[.string ⟨#[]⟩, .string ⟨#[]⟩, .string ⟨#[]⟩, .string ⟨#[]⟩, .string ⟨#[]⟩, .string ⟨#[]⟩, .string ⟨#[]⟩, .string ⟨#[]⟩, .string ⟨#[]⟩, .string ⟨#[]⟩, .string ⟨#[]⟩, .string ⟨#[]⟩]), (w.heap.size, 45, X)] V) HS.out ?_
  intro V0 HV
  replace HV := Lib.hid HV
  clear HS
  go_wp2_with (first | (refine wpList_load_row rfl _ _ rfl w.heap.size rfl _ X (0, 0) _ HV.out.b1 under_co rfl (by rw [hS1]; exact info_co) ?_))
  refine (HCl.out _ (HT.out.next HV.out.bel) (HF.out.next HV.out.bel)).mono ?_
  rintro e w1 ⟨rfl, hb⟩
  have HK1 := Lib.hid (HV.out.next hb)
  clear hb HV
  go_wp2_with fail
  refine (HNu.out _).mono ?_
  rintro e w2 ⟨rfl, hb⟩
  have HK2 : Hid (Bs w [(w.heap.size + 1, 104, strsK ns 0), (w.heap.size, 45, X)] w2) := Lib.hid (HK1.out.next hb)
  clear hb HK1 HNu HCl HT HF
  go_wp2_with fail
  --#r2
  go_loopw [9] (fun i wr => ∃ k : Nat, k ≤ 12 ∧ i = .int .i64 k ∧ Bs w [(w.heap.size + 1, 104, strsK ns k), (w.heap.size, 45, X)] wr) (fun i _ => 12 - (intOf i).toNat)
  case atStart => exact ⟨0, by omega, rfl, HK2.out⟩
  case round =>
    obtain ⟨k, hk, rfl, hB⟩ := hrel
    replace hB := Lib.hid hB
    clear HK2
    by_cases hlt : k < 12
    · have hi := hIx.out k hlt
      have hin := HIn.out (ns.getD k 0) (by rw [List.getD_eq_getElem?_getD, List.getElem?_eq_getElem (by omega), Option.getD_some]; exact List.getElem_mem _)
      have hat := strsK_at ns hl12 k hlt; have hnx := strsK_next ns hl12 k hlt
      have HIk := Lib.hid (fun V t => HIt.out (ns.getD k 0) hin.1 hin.2 V t)
      generalize ns.getD k 0 = x at *
      generalize itT x = tx at *
      have hat2 := Lib.hid hat; have hnx2 := Lib.hid hnx
      clear hin hat hnx HIt
      --#r3
      go_wp2_with fail
      refine (HIk.out _ (HTn.out.next hB.out.bel)).mono ?_
      rintro e w3 ⟨rfl, hb⟩
      have hB2 := Lib.hid (hB.out.next hb)
      clear hb hB
      have ck : w3.cell? ⟨w.heap.size + 1, k, none⟩ = some (.string ⟨#[]⟩) := (Blk.cell hB2.out.b0 k).trans hat2.out
      have zk : w3.frozen? ⟨w.heap.size + 1, k, none⟩ = false := Blk.frozen hB2.out.b0 k
      go_wp2_with fail
      have hB3 := hB2.out.s0 k (.string tx)
      rw [hnx2.out] at hB3
      replace hB3 := Lib.hid hB3
      clear ck zk hB2 hat2 hnx2 hi HIk
      --#r4
      go_roundw
      case rel => exact ⟨k + 1, by omega, by simp, hB3.out⟩
      case measure => simp [intOf]; omega
    · obtain rfl : k = 12 := by omega
      rw [strsK_end ns hl12] at hB
      clear hIx HIn HIt HTn hS1 hS2
      --#r5
      go_wp2_with fail
      refine (HJ.out (w.heap.size + 1) _ hB.out.b0.lt (fun j t hj => ?_)).mono ?_
      · rw [Nat.zero_add]
        refine (Blk.cell hB.out.b0 j).trans ?_
        rw [List.getElem?_toArray, List.getElem?_map, hj]
        rfl
      rintro e w4 ⟨rfl, hb⟩
      have hbe := Lib.hid (hB.out.bel.trans (hb.mono hB.out.bel.size))
      clear hb hB
      go_wp2_with fail
      go_ret
      exact ⟨rfl, hbe.out⟩
end Go.Proofs.YtojdfooocadhoaaGreatDoor

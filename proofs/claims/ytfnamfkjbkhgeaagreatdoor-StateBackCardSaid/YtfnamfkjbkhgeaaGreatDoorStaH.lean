/-
  The numbers of a core, and their report, by the program.
  What sets a setting, by the program.
-/
import Derived.Test.YtfnamfkjbkhgeaaGreatDoorStaF
import Derived.Test.YtfnamfkjbkhgeaaGreatDoorKit2
import Derived.Test.YtfnamfkjbkhgeaaGreatDoorParP
namespace Go.Proofs.YtfnamfkjbkhgeaaGreatDoor

open Go Go.RowKit

def nbrP (y : Co) : List Int := [y.lv, y.eg.toNat, (y.m / 4096 : Nat), (y.m % 4096 : Nat), y.st.toNat, y.su, y.bl.toNat, y.f.mt, y.f.ml, y.f.mb, y.f.mr, y.K.og.toNat]
theorem bitB_any (b : Bool) (V : World) : Calls Tryz.prog 28 #[.bool b] V fun e w' => e = .returned (.int .i64 (b.toNat : Int)) ∧ Below V.heap.size V w' :=
  (bit_any b V).mono (by rintro e w'' ⟨rfl, rfl⟩; exact ⟨rfl, Below.refl _ _⟩)
theorem num_in {y : Co} (h : ClOk y) : ∀ n ∈ nbrP y, 0 ≤ n ∧ n ≤ 65535 := by
  have b : ∀ b : Bool, (b.toNat : Int) ≤ 1 := fun b => by cases b <;> decide
  have b1 := b y.eg; have b2 := b y.st; have b3 := b y.bl; have b4 := b y.K.og
  have h1 := h.lv; have h2 := h.su; have h3 := h.m; have h4 := h.h2; have h5 := h.h3; have h6 := h.h4; have h7 := h.h5
  intro n hn
  simp only [nbrP, List.mem_cons, List.not_mem_nil, or_false] at hn
  rcases hn with rfl | rfl | rfl | rfl | rfl | rfl | rfl | rfl | rfl | rfl | rfl | rfl <;> omega
def a12 (ns : List Int) : Value := .agg (ns.map (Value.int .i64)).toArray
set_option maxRecDepth 100000 in
set_option maxHeartbeats 8000000 in
theorem numbers_any (y : Co) (hm : y.m < 131072) (w : World) : Calls Tryz.prog 50 #[coV .u32 y] w fun e w' => e = .returned (a12 (nbrP y)) ∧ Below w.heap.size w w' := by
  have HB1 := Lib.hid (bitB_any y.eg); have HB2 := Lib.hid (bitB_any y.st); have HB3 := Lib.hid (bitB_any y.bl); have HB4 := Lib.hid (bitB_any y.K.og)
  have e1 : Int.tdiv (y.m : Int) 4096 = ((y.m / 4096 : Nat) : Int) := by rw [Int.tdiv_eq_ediv_of_nonneg (by omega)]; omega
  have e2 : Int.tmod (y.m : Int) 4096 = ((y.m % 4096 : Nat) : Int) := by rw [Int.tmod_eq_emod_of_nonneg (by omega)]; omega
  have w1 : IntKind.u32.wrap ((y.m / 4096 : Nat) : Int) = ((y.m / 4096 : Nat) : Int) := by have := wrap_bv32 (BitVec.ofNat 32 (y.m / 4096)); rwa [bv_eq (by omega)] at this
  have w2 : IntKind.u32.wrap ((y.m % 4096 : Nat) : Int) = ((y.m % 4096 : Nat) : Int) := by have := wrap_bv32 (BitVec.ofNat 32 (y.m % 4096)); rwa [bv_eq (by omega)] at this
  have w3 : IntKind.i64.wrap ((y.m / 4096 : Nat) : Int) = ((y.m / 4096 : Nat) : Int) := IntWalk.i64_in _ (by omega)
  have w4 : IntKind.i64.wrap ((y.m % 4096 : Nat) : Int) = ((y.m % 4096 : Nat) : Int) := IntWalk.i64_in _ (by omega)
  unfold a12 nbrP coV
  simp only [List.map_cons, List.map_nil]
  clear hm
  obtain ⟨r, c, wp, ⟨rd, kp, og, a, b, cc, d, l, rr, s⟩, ⟨pt, pl, pb, pr, mt, ml, mb, mr⟩, m, lv, eg, st, su, bl, pg, ps⟩ := y
  simp only [coC] at *
  generalize ((m / 4096 : Nat) : Int) = q1 at *
  generalize ((m % 4096 : Nat) : Int) = q2 at *
  generalize (m : Int) = mz at *
  generalize (eg.toNat : Int) = eb at *
  generalize (st.toNat : Int) = sb at *
  generalize (bl.toNat : Int) = bb at *
  generalize (og.toNat : Int) = ob at *
  have HS := Lib.hid (Bs.start2 w 45 107 #[.int .i64 r, .int .i64 c, .int .u8 rd, .bool kp, .bool wp, .bool og, .int .i64 a, .int .i64 b, .int .i64 cc, .int .i64 d, .int .i64 l, .int .i64 rr, .int .i64 s, .int .i64 pt, .int .i64 pl, .int .i64 pb, .int .i64 pr, .int .i64 mt, .int .i64 ml, .int .i64 mb, .int .i64 mr, .int .u32 mz, .int .i64 lv, .bool eg, .bool st, .int .i64 su, .bool bl, .int .i64 pg, .int .i64 ps] #[.int .i64 0, .int .i64 0, .int .i64 0, .int .i64 0, .int .i64 0, .int .i64 0, .int .i64 0, .int .i64 0, .int .i64 0, .int .i64 0, .int .i64 0, .int .i64 0])
  go_enter Tryz.func50, Tryz.ntmps50
  go_upto_region 1 with fail
  refine world_gen (fun W => Bs w [(w.heap.size + 1, 107, #[.int .i64 0, .int .i64 0, .int .i64 0, .int .i64 0, .int .i64 0, .int .i64 0, .int .i64 0, .int .i64 0, .int .i64 0, .int .i64 0, .int .i64 0, .int .i64 0]), (w.heap.size, 45, #[.int .i64 r, .int .i64 c, .int .u8 rd, .bool kp, .bool wp, .bool og, .int .i64 a, .int .i64 b, .int .i64 cc, .int .i64 d, .int .i64 l, .int .i64 rr, .int .i64 s, .int .i64 pt, .int .i64 pl, .int .i64 pb, .int .i64 pr, .int .i64 mt, .int .i64 ml, .int .i64 mb, .int .i64 mr, .int .u32 mz, .int .i64 lv, .bool eg, .bool st, .int .i64 su, .bool bl, .int .i64 pg, .int .i64 ps])] W) HS.out ?_
  intro W HW
  replace HW := Lib.hid HW
  have HC := Lib.hid (fun w' (h : Only [w.heap.size + 1] W w') => co29 (h.blk HW.out.b1 (by simp)))
  clear HS
  --#1
  refine wp_region_mix_lit (by kernel_rfl) [(4, .call (.int .i64 eb)), (15, .call (.int .i64 sb)), (20, .call (.int .i64 bb)), (40, .call (.int .i64 ob)), (42, .store (w.heap.size + 1) 107 #[.int .i64 0, .int .i64 0, .int .i64 0, .int .i64 0, .int .i64 0, .int .i64 0, .int .i64 0, .int .i64 0, .int .i64 0, .int .i64 0, .int .i64 0, .int .i64 0] (fun _ => #[.int .i64 lv, .int .i64 eb, .int .i64 q1, .int .i64 q2, .int .i64 sb, .int .i64 su, .int .i64 bb, .int .i64 mt, .int .i64 ml, .int .i64 mb, .int .i64 mr, .int .i64 ob]))] (by kernel_rfl) (by kernel_rfl) (by kernel_rfl) (by rfl) (by simp [apartK] <;> omega) (by simp [startK]; exact HW.out.b0) (by simp [stabK]) (⟨fun _ => undef, by simp [okK]⟩) (fun β hβ => ?_)
  repeat (
    refine lex_val (v := ?_) rfl rfl (fun w' hf => ?_) ?_
    rotate_left
    · obtain ⟨c0, c1, c2, c3, c4, c5, c6, c7, c8, c9, c10, c11, c12, c13, c14, c15, c16, c17, c18, c19, c20, c21, c22, c23, c24, c25, c26, c27, c28⟩ := HC.out w' hf.only; go_simp
      try rfl
    try simp only [Act.put, List.setIfInBounds_toArray, List.set_cons_zero, List.set_cons_succ])
  --#n0
  refine lex_call (f := 28) (args := ?_) rfl rfl (fun w' hf => ?_) (fun w' hf => ?_) ?_
  rotate_left
  · go_simp
    try rfl
  · exact HB1.out w'
  try simp only [Act.put, List.setIfInBounds_toArray, List.set_cons_zero, List.set_cons_succ]
  repeat (
    refine lex_val (v := ?_) rfl rfl (fun w' hf => ?_) ?_
    rotate_left
    · obtain ⟨c0, c1, c2, c3, c4, c5, c6, c7, c8, c9, c10, c11, c12, c13, c14, c15, c16, c17, c18, c19, c20, c21, c22, c23, c24, c25, c26, c27, c28⟩ := HC.out w' hf.only; go_simp
      try rfl
    try simp only [Act.put, List.setIfInBounds_toArray, List.set_cons_zero, List.set_cons_succ])
  --#n1
  refine lex_call (f := 28) (args := ?_) rfl rfl (fun w' hf => ?_) (fun w' hf => ?_) ?_
  rotate_left
  · go_simp
    try rfl
  · exact HB2.out w'
  try simp only [Act.put, List.setIfInBounds_toArray, List.set_cons_zero, List.set_cons_succ]
  repeat (
    refine lex_val (v := ?_) rfl rfl (fun w' hf => ?_) ?_
    rotate_left
    · obtain ⟨c0, c1, c2, c3, c4, c5, c6, c7, c8, c9, c10, c11, c12, c13, c14, c15, c16, c17, c18, c19, c20, c21, c22, c23, c24, c25, c26, c27, c28⟩ := HC.out w' hf.only; go_simp
      try rfl
    try simp only [Act.put, List.setIfInBounds_toArray, List.set_cons_zero, List.set_cons_succ])
  --#n2
  refine lex_call (f := 28) (args := ?_) rfl rfl (fun w' hf => ?_) (fun w' hf => ?_) ?_
  rotate_left
  · go_simp
    try rfl
  · exact HB3.out w'
  try simp only [Act.put, List.setIfInBounds_toArray, List.set_cons_zero, List.set_cons_succ]
  repeat (
    refine lex_val (v := ?_) rfl rfl (fun w' hf => ?_) ?_
    rotate_left
    · obtain ⟨c0, c1, c2, c3, c4, c5, c6, c7, c8, c9, c10, c11, c12, c13, c14, c15, c16, c17, c18, c19, c20, c21, c22, c23, c24, c25, c26, c27, c28⟩ := HC.out w' hf.only; go_simp
      try rfl
    try simp only [Act.put, List.setIfInBounds_toArray, List.set_cons_zero, List.set_cons_succ])
  --#n3
  refine lex_call (f := 28) (args := ?_) rfl rfl (fun w' hf => ?_) (fun w' hf => ?_) ?_
  rotate_left
  · go_simp
    try rfl
  · exact HB4.out w'
  try simp only [Act.put, List.setIfInBounds_toArray, List.set_cons_zero, List.set_cons_succ]
  repeat (
    refine lex_val (v := ?_) rfl rfl (fun w' hf => ?_) ?_
    rotate_left
    · go_simp
      try rfl
    try simp only [Act.put, List.setIfInBounds_toArray, List.set_cons_zero, List.set_cons_succ])
  --#2
  refine lex_store rfl rfl (fun w' hf hB => ⟨_, exec_store_row 107 (.tmp 2) (.tmp 44) rfl rfl rfl hB (by kernel_rfl) rfl (by kernel_rfl), row_repl hB _⟩) ?_
  try simp only [Act.put]
  refine lex_nil fun w5 he => ?_
  have hb9 : Blk w5 (w.heap.size + 1) 107 #[.int .i64 lv, .int .i64 eb, .int .i64 q1, .int .i64 q2, .int .i64 sb, .int .i64 su, .int .i64 bb, .int .i64 mt, .int .i64 ml, .int .i64 mb, .int .i64 mr, .int .i64 ob] := he.facts 42
  have HK1 := Lib.hid (Bs.mix HW.out he.only hb9)
  clear he hb9 HW HC hβ
  --#3
  repeat go_step
  refine bodyPost_ret (v := .agg #[.int .i64 lv, .int .i64 eb, .int .i64 q1, .int .i64 q2, .int .i64 sb, .int .i64 su, .int .i64 bb, .int .i64 mt, .int .i64 ml, .int .i64 mb, .int .i64 mr, .int .i64 ob]) (results_cell_row rfl _ _ (w.heap.size + 1) 107 #[.int .i64 lv, .int .i64 eb, .int .i64 q1, .int .i64 q2, .int .i64 sb, .int .i64 su, .int .i64 bb, .int .i64 mt, .int .i64 ml, .int .i64 mb, .int .i64 mr, .int .i64 ob] (0, 0) _ rfl HK1.out.b0 Tryz.underlying107 rfl (by kernel_rfl)) rfl ⟨rfl, HK1.out.bel⟩
theorem idx12 (n0 n1 n2 n3 n4 n5 n6 n7 n8 n9 n10 n11 : Int) : ∀ k : Nat, k < 12 → ∀ W : World, (Instr.index 107 (.agg #[.int .i64 n0, .int .i64 n1, .int .i64 n2, .int .i64 n3, .int .i64 n4, .int .i64 n5, .int .i64 n6, .int .i64 n7, .int .i64 n8, .int .i64 n9, .int .i64 n10, .int .i64 n11]) (.int .i64 k)).run Tryz.prog W = .ok (.int .i64 ([n0, n1, n2, n3, n4, n5, n6, n7, n8, n9, n10, n11].getD k 0)) W
  | 0, _ => fun W => by kernel_rfl
  | 1, _ => fun W => by kernel_rfl
  | 2, _ => fun W => by kernel_rfl
  | 3, _ => fun W => by kernel_rfl
  | 4, _ => fun W => by kernel_rfl
  | 5, _ => fun W => by kernel_rfl
  | 6, _ => fun W => by kernel_rfl
  | 7, _ => fun W => by kernel_rfl
  | 8, _ => fun W => by kernel_rfl
  | 9, _ => fun W => by kernel_rfl
  | 10, _ => fun W => by kernel_rfl
  | 11, _ => fun W => by kernel_rfl
  | n + 12, h => absurd h (by omega)
def strsK (ns : List Int) (k : Nat) : Array Value := ((ns.take k).map (fun n => Value.string (itT n)) ++ List.replicate (12 - k) (Value.string ⟨#[]⟩)).toArray
theorem strsK_size (ns : List Int) (h : ns.length = 12) (k : Nat) (hk : k ≤ 12) : (strsK ns k).size = 12 := by unfold strsK; simp; omega
theorem strsK_at (ns : List Int) (h : ns.length = 12) (k : Nat) (hk : k < 12) : (strsK ns k)[k]? = some (.string ⟨#[]⟩) := by
  unfold strsK
  have hl : ((ns.take k).map (fun n => Value.string (itT n))).length = k := by simp; omega
  rw [List.getElem?_toArray, List.getElem?_append_right (by omega), hl, Nat.sub_self, show 12 - k = (12 - (k + 1)) + 1 from by omega, List.replicate_succ]
  rfl
theorem strsK_next (ns : List Int) (h : ns.length = 12) (k : Nat) (hk : k < 12) : (strsK ns k).setIfInBounds k (.string (itT (ns.getD k 0))) = strsK ns (k + 1) := by
  unfold strsK
  rw [List.setIfInBounds_toArray]
  congr 1
  have hl : ((ns.take k).map (fun n => Value.string (itT n))).length = k := by simp; omega
  rw [List.set_append, if_neg (by omega), hl, Nat.sub_self, show 12 - k = (12 - (k + 1)) + 1 from by omega, List.replicate_succ, List.set_cons_zero]
  have hk' : k < ns.length := by omega
  rw [← List.take_append_getElem hk', List.map_append, List.append_assoc]
  simp [List.getD, List.getElem?_eq_getElem hk']
theorem strsK_end (ns : List Int) (h : ns.length = 12) : strsK ns 12 = ((ns.map itT).map Value.string).toArray := by
  unfold strsK
  rw [List.take_of_length_le (by omega)]
  simp
set_option maxRecDepth 100000 in
set_option maxHeartbeats 8000000 in
theorem rep_any {x : Co} {H W it il ib ir : Int} (h : FrOk x.f H W it il ib ir) (hr0 : 0 ≤ x.K.rd) (hr1 : x.K.rd ≤ 255) (hm : x.m < 2 ^ 32) (w : World) (ht : Tab w) (hfc : Faces w) (htn : Ten w) :
    Calls Tryz.prog 16 #[coV .u32 x] w fun e w' => e = .returned (.string (joinT ((nbrP (clnP x H W it il ib ir)).map itT))) ∧ Below w.heap.size w w' := by
  have HCl := Lib.hid (fun V t f => cleanC_any h hr0 hr1 hm V t f)
  have hk := cl_ok h
  have HT := Lib.hid ht; have HF := Lib.hid hfc; have HTn := Lib.hid htn
  obtain ⟨y, hy⟩ : ∃ y, y = clnP x H W it il ib ir := ⟨_, rfl⟩
  rw [← hy] at HCl hk ⊢
  clear h hr0 hr1 hm ht hfc htn hy
  have HNu := Lib.hid (fun V => numbers_any y hk.m V)
  have HIn := Lib.hid (num_in hk)
  have hn12 : (nbrP y).length = 12 := rfl
  obtain ⟨n0, n1, n2, n3, n4, n5, n6, n7, n8, n9, n10, n11, hns⟩ : ∃ n0 n1 n2 n3 n4 n5 n6 n7 n8 n9 n10 n11 : Int, nbrP y = [n0, n1, n2, n3, n4, n5, n6, n7, n8, n9, n10, n11] := ⟨_, _, _, _, _, _, _, _, _, _, _, _, rfl⟩
  rw [hns] at HNu HIn ⊢
  have hIx := Lib.hid (idx12 n0 n1 n2 n3 n4 n5 n6 n7 n8 n9 n10 n11)
  clear hns hn12
  have hl12 : [n0, n1, n2, n3, n4, n5, n6, n7, n8, n9, n10, n11].length = 12 := rfl
  obtain ⟨ns, hns⟩ : ∃ ns, ns = [n0, n1, n2, n3, n4, n5, n6, n7, n8, n9, n10, n11] := ⟨_, rfl⟩
  have HIt := Lib.hid (fun n h0 h1 V t => itT_any n h0 h1 V t)
  have HJ := Lib.hid (fun bk V hbk hc => joinS_any bk 12 (ns.map itT) (by rw [List.length_map, hns]; show 12 ≤ 30; omega) (fun x hx => by obtain ⟨y, _, rfl⟩ := List.mem_map.1 hx; exact Nat.le_trans (itT_len y) (by omega)) (by rw [List.length_map, hns]; exact Nat.le_refl 12) V hbk hc)
  rw [List.length_map, show ns.length = 12 from by rw [hns]; rfl] at HJ
  rw [← hns] at HIn hIx hl12 ⊢
  generalize joinT (ns.map itT) = out at *
  unfold a12 at HNu
  simp only [List.map_cons, List.map_nil] at HNu
  clear hns
  have hS1 := coS .u32 x; have hS2 := coS .u32 y
  unfold coV at *
  generalize coC .u32 x = X at *
  generalize coC .u32 y = Y at *
  have HS := Lib.hid (Bs.start2 w 45 110 X #[.string ⟨#[]⟩, .string ⟨#[]⟩, .string ⟨#[]⟩, .string ⟨#[]⟩, .string ⟨#[]⟩, .string ⟨#[]⟩, .string ⟨#[]⟩, .string ⟨#[]⟩, .string ⟨#[]⟩, .string ⟨#[]⟩, .string ⟨#[]⟩, .string ⟨#[]⟩])
  go_enter Tryz.func16, Tryz.ntmps16
  go_upto_region 2 with fail
  --#r1
  refine world_gen (fun V => Bs w [(w.heap.size + 1, 110, #[.string ⟨#[]⟩, .string ⟨#[]⟩, .string ⟨#[]⟩, .string ⟨#[]⟩, .string ⟨#[]⟩, .string ⟨#[]⟩, .string ⟨#[]⟩, .string ⟨#[]⟩, .string ⟨#[]⟩, .string ⟨#[]⟩, .string ⟨#[]⟩, .string ⟨#[]⟩]), (w.heap.size, 45, X)] V) HS.out ?_
  intro V0 HV
  replace HV := Lib.hid HV
  clear HS
  go_wp2_with (first | (refine wpList_load_row rfl _ _ rfl w.heap.size rfl _ X (0, 0) _ HV.out.b1 under_co rfl (by rw [hS1]; exact info_co) ?_))
  refine (HCl.out _ (HT.out.next HV.out.bel) (HF.out.next HV.out.bel)).mono ?_
  rintro e w1 ⟨rfl, hb⟩
  have HK1 := Lib.hid (HV.out.next hb)
  clear hb HV
  go_wp2_with fail
  refine (HNu.out _).mono ?_
  rintro e w2 ⟨rfl, hb⟩
  have HK2 : Hid (Bs w [(w.heap.size + 1, 110, strsK ns 0), (w.heap.size, 45, X)] w2) := Lib.hid (HK1.out.next hb)
  clear hb HK1 HNu HCl HT HF
  go_wp2_with fail
  --#r2
  go_loopw [9] (fun i wr => ∃ k : Nat, k ≤ 12 ∧ i = .int .i64 k ∧ Bs w [(w.heap.size + 1, 110, strsK ns k), (w.heap.size, 45, X)] wr) (fun i _ => 12 - (intOf i).toNat)
  case atStart => exact ⟨0, by omega, rfl, HK2.out⟩
  case round =>
    obtain ⟨k, hk, rfl, hB⟩ := hrel
    replace hB := Lib.hid hB
    clear HK2
    by_cases hlt : k < 12
    · have hi := hIx.out k hlt
      have hin := HIn.out (ns.getD k 0) (by rw [List.getD_eq_getElem?_getD, List.getElem?_eq_getElem (by omega), Option.getD_some]; exact List.getElem_mem _)
      have hat := strsK_at ns hl12 k hlt; have hnx := strsK_next ns hl12 k hlt
      have HIk := Lib.hid (fun V t => HIt.out (ns.getD k 0) hin.1 hin.2 V t)
      generalize ns.getD k 0 = x at *
      generalize itT x = tx at *
      have hat2 := Lib.hid hat; have hnx2 := Lib.hid hnx
      clear hin hat hnx HIt
      --#r3
      go_wp2_with fail
      refine (HIk.out _ (HTn.out.next hB.out.bel)).mono ?_
      rintro e w3 ⟨rfl, hb⟩
      have hB2 := Lib.hid (hB.out.next hb)
      clear hb hB
      have ck : w3.cell? ⟨w.heap.size + 1, k, none⟩ = some (.string ⟨#[]⟩) := (Blk.cell hB2.out.b0 k).trans hat2.out
      have zk : w3.frozen? ⟨w.heap.size + 1, k, none⟩ = false := Blk.frozen hB2.out.b0 k
      go_wp2_with fail
      have hB3 := hB2.out.s0 k (.string tx)
      rw [hnx2.out] at hB3
      replace hB3 := Lib.hid hB3
      clear ck zk hB2 hat2 hnx2 hi HIk
      --#r4
      go_roundw
      case rel => exact ⟨k + 1, by omega, by simp, hB3.out⟩
      case measure => simp [intOf]; omega
    · obtain rfl : k = 12 := by omega
      rw [strsK_end ns hl12] at hB
      clear hIx HIn HIt HTn hS1 hS2
      --#r5
      go_wp2_with fail
      refine (HJ.out (w.heap.size + 1) _ hB.out.b0.lt (fun j t hj => ?_)).mono ?_
      · rw [Nat.zero_add]
        refine (Blk.cell hB.out.b0 j).trans ?_
        rw [List.getElem?_toArray, List.getElem?_map, hj]
        rfl
      rintro e w4 ⟨rfl, hb⟩
      have hbe := Lib.hid (hB.out.bel.trans (hb.mono hB.out.bel.size))
      clear hb hB
      go_wp2_with fail
      go_ret
      exact ⟨rfl, hbe.out⟩
end Go.Proofs.YtfnamfkjbkhgeaaGreatDoor

namespace Go.Proofs.YtfnamfkjbkhgeaaGreatDoor

open Go Go.RowKit

def neg (b : Bool) : Int := ((!b).toNat : Int)
/-- The numbers of a setting, by its id. -/
def stgL (y : Co) (id : List UInt8) : Option (List Int) :=
  if id = [109] then some (parK y.K.rd 5) else if id = [114] then some [y.f.mt + 1, y.f.mb] else if id = [115] then some [y.f.ml + 1, y.f.mr]
  else if id = [34, 113] then some [(y.K.kp.toNat : Int)] else if id = [34, 112] then some [60 + y.lv, neg y.eg] else if id = [42, 120] then some [1 + neg y.st]
  else if id = [116] then some [y.f.pb] else if id = [36, 124] then some [y.f.pr] else if id = [36, 126] then some [y.su] else if id = [36, 125] then some [(y.bl.toNat : Int)] else none
def stgV (y : Co) (id : ByteArray) : Value := match stgL y id.data.toList with
  | some ns => .tuple #[.string (bytesOf (fmtL ns) ++ id), .bool true]
  | none => .tuple #[.string ⟨#[]⟩, .bool false]
/-- A letter that is ints in memory of its own. -/
def INF (B : Nat) (l : List Int) (u : Value) (W : World) : Prop := ∃ g, u = .slice (some ⟨g, 0, none⟩) l.length l.length ∧ B ≤ g ∧ Blk W g 3 (l.map (Value.int .i64)).toArray
def INP (n : Nat) (u : Value) : Prop := ∃ g, u = .slice (some ⟨g, 0, none⟩) n n
theorem inF_stab (ks : Kinds) (wr : World) (l : List Int) (ht : 3 ∉ boxes ks) : ∀ v w w', Kept ks wr w w' → INF wr.heap.size l v w → INF wr.heap.size l v w' := by
  rintro v w w' hk ⟨g, e, hb, hh⟩
  refine ⟨g, e, hb, ?_⟩
  refine (hk.block g hh.lt hb (fun cs T fr e => by
    have e2 : some (Obj.cells (l.map (Value.int .i64)).toArray 3 (0, 0)) = some (.cells cs T fr) := hh.symm.trans e
    injection e2 with e2
    injection e2 with _ e3 _
    rw [← e3]; exact ht)).trans hh
theorem ten_cases : ∀ p0 p1 p2 p3 p4 p5 p6 p7 p8 p9 : Bool, p0 = true ∨ (p0 = false ∧ p1 = true) ∨ (p0 = false ∧ p1 = false ∧ p2 = true) ∨ (p0 = false ∧ p1 = false ∧ p2 = false ∧ p3 = true) ∨ (p0 = false ∧ p1 = false ∧ p2 = false ∧ p3 = false ∧ p4 = true) ∨ (p0 = false ∧ p1 = false ∧ p2 = false ∧ p3 = false ∧ p4 = false ∧ p5 = true) ∨ (p0 = false ∧ p1 = false ∧ p2 = false ∧ p3 = false ∧ p4 = false ∧ p5 = false ∧ p6 = true) ∨ (p0 = false ∧ p1 = false ∧ p2 = false ∧ p3 = false ∧ p4 = false ∧ p5 = false ∧ p6 = false ∧ p7 = true) ∨ (p0 = false ∧ p1 = false ∧ p2 = false ∧ p3 = false ∧ p4 = false ∧ p5 = false ∧ p6 = false ∧ p7 = false ∧ p8 = true) ∨ (p0 = false ∧ p1 = false ∧ p2 = false ∧ p3 = false ∧ p4 = false ∧ p5 = false ∧ p6 = false ∧ p7 = false ∧ p8 = false ∧ p9 = true) ∨ (p0 = false ∧ p1 = false ∧ p2 = false ∧ p3 = false ∧ p4 = false ∧ p5 = false ∧ p6 = false ∧ p7 = false ∧ p8 = false ∧ p9 = false) := by
  intro p0 p1 p2 p3 p4 p5 p6 p7 p8 p9
  cases p0
  · skip
    cases p1
    · skip
      cases p2
      · skip
        cases p3
        · skip
          cases p4
          · skip
            cases p5
            · skip
              cases p6
              · skip
                cases p7
                · skip
                  cases p8
                  · skip
                    cases p9
                    · exact .inr (.inr (.inr (.inr (.inr (.inr (.inr (.inr (.inr (.inr (⟨rfl, rfl, rfl, rfl, rfl, rfl, rfl, rfl, rfl, rfl⟩))))))))))
                    · exact .inr (.inr (.inr (.inr (.inr (.inr (.inr (.inr (.inr (.inl ⟨rfl, rfl, rfl, rfl, rfl, rfl, rfl, rfl, rfl, rfl⟩)))))))))
                  · exact .inr (.inr (.inr (.inr (.inr (.inr (.inr (.inr (.inl ⟨rfl, rfl, rfl, rfl, rfl, rfl, rfl, rfl, rfl⟩))))))))
                · exact .inr (.inr (.inr (.inr (.inr (.inr (.inr (.inl ⟨rfl, rfl, rfl, rfl, rfl, rfl, rfl, rfl⟩)))))))
              · exact .inr (.inr (.inr (.inr (.inr (.inr (.inl ⟨rfl, rfl, rfl, rfl, rfl, rfl, rfl⟩))))))
            · exact .inr (.inr (.inr (.inr (.inr (.inl ⟨rfl, rfl, rfl, rfl, rfl, rfl⟩)))))
          · exact .inr (.inr (.inr (.inr (.inl ⟨rfl, rfl, rfl, rfl, rfl⟩))))
        · exact .inr (.inr (.inr (.inl ⟨rfl, rfl, rfl, rfl⟩)))
      · exact .inr (.inr (.inl ⟨rfl, rfl, rfl⟩))
    · exact .inr (.inl ⟨rfl, rfl⟩)
  · exact .inl rfl
theorem OInts.form2 {w : World} {base : Nat} {v : Value} {ns : List Int} (h : OInts w base v ns) : ∃ A c, v = .slice A ns.length c ∧ ns.length ≤ c := by
  rcases h.2 with ⟨rfl, hn⟩ | ⟨g, cap, _, rfl, _, _, hc, _⟩
  · exact ⟨none, 0, by rw [hn], by omega⟩
  · exact ⟨_, _, rfl, hc⟩
theorem rints_new1 (W : World) (a : Int) : RInts (W.alloc (.cells #[.int .i64 a] 3)) (some ⟨W.heap.size, 0, none⟩) [a] :=
  OInts.reads (c := 1) (World.ownsRow_lit (e := 3) (size := 1) W #[.int .i64 a] 1 (Nat.le_refl _) (by unfold maxLen; omega) rfl)
theorem rints_new2 (W : World) (a b : Int) : RInts (W.alloc (.cells #[.int .i64 a, .int .i64 b] 3)) (some ⟨W.heap.size, 0, none⟩) [a, b] :=
  OInts.reads (c := 2) (World.ownsRow_lit (e := 3) (size := 1) W #[.int .i64 a, .int .i64 b] 2 (Nat.le_refl _) (by unfold maxLen; omega) rfl)
theorem fmtS (ns : List Int) : (bytesOf (fmtL ns)).size ≤ 180 := by have := fmt_len ns; unfold bytesOf; simpa [ByteArray.size] using this
theorem fmt_any (A : Option Addr) (c : Nat) (ns : List Int) (n : Nat) (hn : n = ns.length) (hl : ns.length ≤ 10) (hc : ns.length ≤ c) (w : World) (ht : Ten w) (hr : RInts w A ns) :
    Calls Tryz.prog 54 #[.slice A n c] w fun e w' => e = .returned (.string (bytesOf (fmtL ns))) ∧ Below w.heap.size w w' := by
  subst hn
  exact format_any A c ns (by unfold maxLen; omega) hc w ht hr
set_option maxRecDepth 100000 in
set_option maxHeartbeats 8000000 in
theorem setting_any {x : Co} {H W it il ib ir : Int} (h : FrOk x.f H W it il ib ir) (hr0 : 0 ≤ x.K.rd) (hr1 : x.K.rd ≤ 255) (hm : x.m < 2 ^ 32) (id : ByteArray) (w : World) (ht : Tab w) (hfc : Faces w) (htn : Ten w) :
    Calls Tryz.prog 17 #[coV .u32 x, .string id] w fun e w' => e = .returned (stgV (clnP x H W it il ib ir) id) ∧ Below w.heap.size w w' := by
  have HCl := Lib.hid (fun V t f => cleanC_any h hr0 hr1 hm V t f)
  have hk := cl_ok h
  have HT := Lib.hid ht; have HF := Lib.hid hfc; have HTn := Lib.hid htn
  obtain ⟨y, hy⟩ : ∃ y, y = clnP x H W it il ib ir := ⟨_, rfl⟩
  rw [← hy] at HCl hk ⊢
  clear h hr0 hr1 hm ht hfc htn hy
  have hk2 := hk.h2; have hk3 := hk.h3; have hk4 := hk.h4; have hk5 := hk.h5; have hk6 := hk.lv; have hk7 := hk.rd
  have HSz := Lib.hid (fun V => size_any y.f.pt y.f.pl y.f.pb y.f.pr (by have := hk.h1; unfold Sm; omega) (by have := hk.h1; unfold Sm; omega) (by unfold Sm; omega) (by unfold Sm; omega) V)
  rw [show bEm y.f.pt y.f.pl y.f.pb y.f.pr = false from by have := hk.h1; unfold bEm emB; simp; omega, show y.f.pb - y.f.pt = y.f.pb from by have := hk.h1; omega, show y.f.pr - y.f.pl = y.f.pr from by have := hk.h1; omega] at HSz
  simp only [Bool.false_eq_true, if_false] at HSz
  have HPa := Lib.hid (fun V t => params_any y.K.rd (by omega) (by omega) V t)
  have HB1 := Lib.hid (fun V => bitB_any y.K.kp V); have HB2 := Lib.hid (fun V => bitB_any (!y.eg) V); have HB3 := Lib.hid (fun V => bitB_any (!y.st) V); have HB4 := Lib.hid (fun V => bitB_any y.bl V)
  have HFm := Lib.hid (fun A c ns n hn hl hc V t r => fmt_any A c ns n hn hl hc V t r)
  have HAdd := Lib.hid (fun (ns : List Int) (d : ByteArray) (hd : d.size ≤ 2) W => run_string_add_sum (P := Tryz.prog) W (bytesOf (fmtL ns)) d (by have := fmtS ns; omega))
  have hS1 := coS .u32 x; have hS2 := coS .u32 y; have hO2 := co_one .u32 y
  have HPl := Lib.hid (parK_len y.K.rd 5)
  have HV : Hid (∀ l, id.data.toList = l → stgV y id = match stgL y l with | some ns => .tuple #[.string (bytesOf (fmtL ns) ++ id), .bool true] | none => .tuple #[.string ⟨#[]⟩, .bool false]) := Lib.hid (fun l hl => by unfold stgV; rw [hl])
  generalize stgV y id = out at *
  unfold stgL at HV
  unfold coV at *
  generalize coC .u32 x = X at *
  generalize hY : coC .u32 y = Y at *
  replace hY := Lib.hid hY
  have HS := Lib.hid ((Bs.nil w).alloc 45 X)
  go_enter Tryz.func17, Tryz.ntmps17
  go_wp2_with (first | (refine wpList_load_row rfl _ _ rfl w.heap.size rfl _ X (0, 0) _ HS.out.b0 under_co rfl (by rw [hS1]; exact info_co) ?_))
  refine (HCl.out _ (HT.out.next HS.out.bel) (HF.out.next HS.out.bel)).mono ?_
  rintro e w1 ⟨rfl, hb⟩
  have HK1 := Lib.hid (HS.out.next hb)
  clear hb HS
  go_upto_region 2 with (refine wpList_store_row rfl _ _ _ rfl w.heap.size Y rfl rfl _ _ HK1.out.b0 (by rw [hS2]; exact info_co) (by rw [hS1, hS2]) hO2 ?_)
  refine world_gen (fun V => Bs w [(w.heap.size, 45, Y)] V) (HK1.out.row Y) ?_
  intro V0 HV0
  replace HV0 := Lib.hid HV0
  clear HK1 HCl hS1 hS2 hO2 HF
  obtain ⟨r, c, wp, ⟨rd, kp, og, a, b, cc, d, l, rr, s⟩, ⟨pt, pl, pb, pr, mt, ml, mb, mr⟩, m, lv, eg, st, su, bl, pg, ps⟩ := y
  simp only [coC] at *
  rw [← hY.out] at HV0
  clear hY
  unfold bV at HSz
  --#1
  have c13 : V0.cell? ⟨w.heap.size, 13, none⟩ = some (.int .i64 pt) := Blk.cell HV0.out.b0 13
  have c14 : V0.cell? ⟨w.heap.size, 14, none⟩ = some (.int .i64 pl) := Blk.cell HV0.out.b0 14
  have c15 : V0.cell? ⟨w.heap.size, 15, none⟩ = some (.int .i64 pb) := Blk.cell HV0.out.b0 15
  have c16 : V0.cell? ⟨w.heap.size, 16, none⟩ = some (.int .i64 pr) := Blk.cell HV0.out.b0 16
  go_wp2_with fail
  refine (HSz.out _).mono ?_
  rintro e w2 ⟨rfl, hb⟩
  have HK2 := Lib.hid (HV0.out.next hb)
  clear hb HV0 c13 c14 c15 c16 HSz
  have c17 : w2.cell? ⟨w.heap.size, 17, none⟩ = some (.int .i64 mt) := Blk.cell HK2.out.b0 17
  have c18 : w2.cell? ⟨w.heap.size, 18, none⟩ = some (.int .i64 ml) := Blk.cell HK2.out.b0 18
  have c19 : w2.cell? ⟨w.heap.size, 19, none⟩ = some (.int .i64 mb) := Blk.cell HK2.out.b0 19
  have c20 : w2.cell? ⟨w.heap.size, 20, none⟩ = some (.int .i64 mr) := Blk.cell HK2.out.b0 20
  go_upto_region 4 with fail
  refine world_gen (fun V => Bs w [(w2.heap.size, 29, #[.int .i64 mt, .int .i64 ml, .int .i64 mb, .int .i64 mr]), (w.heap.size, 45, #[.int .i64 r, .int .i64 c, .int .u8 rd, .bool kp, .bool wp, .bool og, .int .i64 a, .int .i64 b, .int .i64 cc, .int .i64 d, .int .i64 l, .int .i64 rr, .int .i64 s, .int .i64 pt, .int .i64 pl, .int .i64 pb, .int .i64 pr, .int .i64 mt, .int .i64 ml, .int .i64 mb, .int .i64 mr, .int .u32 m, .int .i64 lv, .bool eg, .bool st, .int .i64 su, .bool bl, .int .i64 pg, .int .i64 ps])] V) (HK2.out.alloc 29 #[.int .i64 mt, .int .i64 ml, .int .i64 mb, .int .i64 mr]) ?_
  intro V1 HV1
  generalize w2.heap.size = b8 at *
  replace HV1 := Lib.hid HV1
  clear HK2 c17 c18 c19 c20
  have hT1 := Lib.hid (HT.out.next HV1.out.bel); have hTn1 := Lib.hid (HTn.out.next HV1.out.bel)
  obtain ⟨ids, hids⟩ : ∃ ids, ids = id.data.toList := ⟨_, rfl⟩
  --#2
  have hcase := ten_cases (id.toList == [109]) (id.toList == [114]) (id.toList == [115]) (id.toList == [34, 113]) (id.toList == [34, 112]) (id.toList == [42, 120]) (id.toList == [116]) (id.toList == [36, 124]) (id.toList == [36, 126]) (id.toList == [36, 125])
  have hbox := blk4 HV1.out.b0
  obtain ⟨d0, d1, d2, d3, _⟩ := hbox
  have HIdl : Hid (∀ l : List UInt8, (id.toList == l) = true → id.data.toList = l ∧ id.size = l.length) := Lib.hid (fun l hl => by
    have e : id.toList = l := by simpa using hl
    rw [ByteArray.toList_eq] at e
    exact ⟨e, by rw [← e, Array.length_toList]; rfl⟩)
  rcases hcase with g0 | ⟨g0, g1⟩ | ⟨g0, g1, g2⟩ | ⟨g0, g1, g2, g3⟩ | ⟨g0, g1, g2, g3, g4⟩ | ⟨g0, g1, g2, g3, g4, g5⟩ | ⟨g0, g1, g2, g3, g4, g5, g6⟩ | ⟨g0, g1, g2, g3, g4, g5, g6, g7⟩ | ⟨g0, g1, g2, g3, g4, g5, g6, g7, g8⟩ | ⟨g0, g1, g2, g3, g4, g5, g6, g7, g8, g9⟩ | ⟨g0, g1, g2, g3, g4, g5, g6, g7, g8, g9⟩
  · obtain ⟨hl, hz⟩ := HIdl.out _ g0
    have ho : out = .tuple #[.string (bytesOf (fmtL (parK rd 5)) ++ id), .bool true] := by rw [HV.out _ hl]; rfl
    have hadd := HAdd.out (parK rd 5) id (by rw [hz]; decide)
    have HFk := Lib.hid (fun A c n hn hl hc V t r => HFm.out A c (parK rd 5) n hn hl hc V t r)
    generalize bytesOf (fmtL (parK rd 5)) = ft at *
    replace ho := Lib.hid ho
    clear hl hz HAdd HFm HIdl HV hids
    have c2 : V1.cell? ⟨w.heap.size, 2, none⟩ = some (.int .u8 rd) := Blk.cell HV1.out.b1 2
    go_wp2_with fail
    refine (HPa.out _ hT1.out).mono ?_
    rintro e w3 ⟨pv, rfl, hpv, hb⟩
    have HK3 := Lib.hid (HV1.out.next hb)
    clear hb
    obtain ⟨pA, pc, rfl, hpc⟩ := hpv.form2
    have hpr := Lib.hid hpv.reads
    clear hpv
    --#m1
    go_wp2_with fail
    refine (HFk.out pA pc _ rfl (by have := HPl.out; omega) hpc _ (HTn.out.next HK3.out.bel) hpr.out).mono ?_
    rintro e w4 ⟨rfl, hb⟩
    have hbe := Lib.hid (HK3.out.next hb).bel
    clear hb HK3
    --#m9
    go_wp2_with fail
    exact bodyPost_ret (v := .tuple #[.string (ft ++ id), .bool true]) (by simp [results, Tryz.results17, go_sem]) rfl ⟨by rw [ho.out], hbe.out⟩
  · obtain ⟨hl, hz⟩ := HIdl.out _ g1
    have ho : out = .tuple #[.string (bytesOf (fmtL ([mt + 1, mb])) ++ id), .bool true] := by rw [HV.out _ hl]; rfl
    have hadd := HAdd.out ([mt + 1, mb]) id (by rw [hz]; decide)
    have HFk := Lib.hid (fun A c n hn hl hc V t r => HFm.out A c ([mt + 1, mb]) n hn hl hc V t r)
    generalize bytesOf (fmtL ([mt + 1, mb])) = ft at *
    replace ho := Lib.hid ho
    clear hl hz HAdd HFm HIdl HV hids
    have HN := Lib.hid (HV1.out.alloc 3 #[.int .i64 (mt + 1), .int .i64 (mb)])
    --#r1
    go_wp2_with fail
    refine (HFk.out _ _ _ rfl (by simp) (by simp) _ (HTn.out.next HN.out.bel) (rints_new2 V1 (mt + 1) (mb))).mono ?_
    rintro e w4 ⟨rfl, hb⟩
    have hbe := Lib.hid (HN.out.next hb).bel
    clear hb HN
    --#r9
    go_wp2_with fail
    exact bodyPost_ret (v := .tuple #[.string (ft ++ id), .bool true]) (by simp [results, Tryz.results17, go_sem]) rfl ⟨by rw [ho.out], hbe.out⟩
  · obtain ⟨hl, hz⟩ := HIdl.out _ g2
    have ho : out = .tuple #[.string (bytesOf (fmtL ([ml + 1, mr])) ++ id), .bool true] := by rw [HV.out _ hl]; rfl
    have hadd := HAdd.out ([ml + 1, mr]) id (by rw [hz]; decide)
    have HFk := Lib.hid (fun A c n hn hl hc V t r => HFm.out A c ([ml + 1, mr]) n hn hl hc V t r)
    generalize bytesOf (fmtL ([ml + 1, mr])) = ft at *
    replace ho := Lib.hid ho
    clear hl hz HAdd HFm HIdl HV hids
    have HN := Lib.hid (HV1.out.alloc 3 #[.int .i64 (ml + 1), .int .i64 (mr)])
    --#s1
    go_wp2_with fail
    refine (HFk.out _ _ _ rfl (by simp) (by simp) _ (HTn.out.next HN.out.bel) (rints_new2 V1 (ml + 1) (mr))).mono ?_
    rintro e w4 ⟨rfl, hb⟩
    have hbe := Lib.hid (HN.out.next hb).bel
    clear hb HN
    --#s9
    go_wp2_with fail
    exact bodyPost_ret (v := .tuple #[.string (ft ++ id), .bool true]) (by simp [results, Tryz.results17, go_sem]) rfl ⟨by rw [ho.out], hbe.out⟩
  · obtain ⟨hl, hz⟩ := HIdl.out _ g3
    have ho : out = .tuple #[.string (bytesOf (fmtL ([(kp.toNat : Int)])) ++ id), .bool true] := by rw [HV.out _ hl]; rfl
    have hadd := HAdd.out ([(kp.toNat : Int)]) id (by rw [hz]; decide)
    have HFk := Lib.hid (fun A c n hn hl hc V t r => HFm.out A c ([(kp.toNat : Int)]) n hn hl hc V t r)
    generalize bytesOf (fmtL ([(kp.toNat : Int)])) = ft at *
    replace ho := Lib.hid ho
    clear hl hz HAdd HFm HIdl HV hids
    have c3 : V1.cell? ⟨w.heap.size, 3, none⟩ = some (.bool kp) := Blk.cell HV1.out.b1 3
    go_wp2_with fail
    refine (HB1.out _).mono ?_
    rintro e w3 ⟨rfl, hb⟩
    have HK3 := Lib.hid (HV1.out.next hb)
    clear hb
    have HN := Lib.hid (HK3.out.alloc 3 #[.int .i64 ((kp.toNat : Int))])
    --#q1
    go_wp2_with fail
    refine (HFk.out _ _ _ rfl (by simp) (by simp) _ (HTn.out.next HN.out.bel) (rints_new1 w3 ((kp.toNat : Int)))).mono ?_
    rintro e w4 ⟨rfl, hb⟩
    have hbe := Lib.hid (HN.out.next hb).bel
    clear hb HN
    --#q9
    go_wp2_with fail
    exact bodyPost_ret (v := .tuple #[.string (ft ++ id), .bool true]) (by simp [results, Tryz.results17, go_sem]) rfl ⟨by rw [ho.out], hbe.out⟩
  · obtain ⟨hl, hz⟩ := HIdl.out _ g4
    have ho : out = .tuple #[.string (bytesOf (fmtL ([60 + lv, neg eg])) ++ id), .bool true] := by rw [HV.out _ hl]; rfl
    have hadd := HAdd.out ([60 + lv, neg eg]) id (by rw [hz]; decide)
    have HFk := Lib.hid (fun A c n hn hl hc V t r => HFm.out A c ([60 + lv, neg eg]) n hn hl hc V t r)
    generalize bytesOf (fmtL ([60 + lv, neg eg])) = ft at *
    replace ho := Lib.hid ho
    clear hl hz HAdd HFm HIdl HV hids


    have HC := Lib.hid (fun w' (h : Only [] V1 w') => co29 (h.blk HV1.out.b1 (by simp)))
    go_upto_region 16 with fail
    have wr1 : IntKind.i64.wrap (60 + lv) = 60 + lv := IntWalk.i64_in _ (by omega)
    --#p1
    refine wp_region_mix_lit (by kernel_rfl) [(6, .call (.int .i64 (neg eg))), (7, .letter (INP 2) (INF V1.heap.size [60 + lv, neg eg]))] (by kernel_rfl) (by kernel_rfl) (by kernel_rfl) (by rfl) (by simp [apartK] <;> omega) (by simp [startK]) (by simp only [List.forall_mem_cons]; exact ⟨trivial, inF_stab _ _ _ (by simp [boxes, Kind.boxed]), by simp⟩) (⟨fun _ => .slice (some ⟨0, 0, none⟩) 2 2, by simp only [List.forall_mem_cons]; exact ⟨trivial, ⟨0, rfl⟩, by simp⟩⟩) (fun β hβ => ?_)
    repeat (
      refine lex_val (v := ?_) rfl rfl (fun w' hf => ?_) ?_
      rotate_left
      · obtain ⟨c0, c1, c2, c3, c4, c5, c6, c7, c8, c9, c10, c11, c12, c13, c14, c15, c16, c17, c18, c19, c20, c21, c22, c23, c24, c25, c26, c27, c28⟩ := HC.out w' hf.only; go_simp
        try rfl
      try simp only [Act.put, List.setIfInBounds_toArray, List.set_cons_zero, List.set_cons_succ])
    refine lex_call (f := 28) (args := ?_) rfl rfl (fun w' hf => ?_) (fun w' hf => ?_) ?_
    rotate_left
    · go_simp
      try rfl
    · exact HB2.out w'
    try simp only [Act.put, List.setIfInBounds_toArray, List.set_cons_zero, List.set_cons_succ]
    refine lex_made rfl rfl (fun w' hf => ⟨.slice (some ⟨w'.heap.size, 0, none⟩) 2 2, w'.alloc (.cells #[.int .i64 (60 + lv), .int .i64 (neg eg)] 3), ?_, ⟨_, rfl⟩, ⟨_, rfl, hf.only.size, Blk.new _ _ _⟩, (Below.refl _ _).alloc (Nat.le_refl _) _⟩) ?_
    · go_simp
    try simp only [Act.put, List.setIfInBounds_toArray, List.set_cons_zero, List.set_cons_succ]
    repeat (
      refine lex_val (v := ?_) rfl rfl (fun w' hf => ?_) ?_
      rotate_left
      · go_simp
        try rfl
      try simp only [Act.put, List.setIfInBounds_toArray, List.set_cons_zero, List.set_cons_succ])
    refine lex_nil fun w3 he => ?_
    have h7 : INF V1.heap.size [60 + lv, neg eg] (β 7) w3 := (he.facts 7).2
    obtain ⟨g7, e7, hg7, hB7⟩ := h7
    rw [e7]
    have HK3 := Lib.hid (HV1.out.bel.trans (he.only.below0.mono HV1.out.bel.size))
    have hr7 : RInts w3 (some ⟨g7, 0, none⟩) [60 + lv, neg eg] := OInts.reads (c := 2) (blk_own (base := 0) hB7 (Nat.zero_le _) (by unfold maxLen; simp))
    clear he e7 hg7 hβ HC
    --#p2
    go_wp2_with fail
    refine (HFk.out _ _ _ rfl (by simp) (by simp) _ (HTn.out.next HK3.out) hr7).mono ?_
    rintro e w4 ⟨rfl, hb⟩
    have hbe := Lib.hid (HK3.out.trans (hb.mono HK3.out.size))
    clear hb HK3 hr7
    --#p9
    go_wp2_with fail
    exact bodyPost_ret (v := .tuple #[.string (ft ++ id), .bool true]) (by simp [results, Tryz.results17, go_sem]) rfl ⟨by rw [ho.out], hbe.out⟩
  · obtain ⟨hl, hz⟩ := HIdl.out _ g5
    have ho : out = .tuple #[.string (bytesOf (fmtL ([1 + neg st])) ++ id), .bool true] := by rw [HV.out _ hl]; rfl
    have hadd := HAdd.out ([1 + neg st]) id (by rw [hz]; decide)
    have HFk := Lib.hid (fun A c n hn hl hc V t r => HFm.out A c ([1 + neg st]) n hn hl hc V t r)
    generalize bytesOf (fmtL ([1 + neg st])) = ft at *
    replace ho := Lib.hid ho
    clear hl hz HAdd HFm HIdl HV hids
    have c24 : V1.cell? ⟨w.heap.size, 24, none⟩ = some (.bool st) := Blk.cell HV1.out.b1 24
    go_wp2_with fail
    refine (HB3.out _).mono ?_
    rintro e w3 ⟨rfl, hb⟩
    have HK3 := Lib.hid (HV1.out.next hb)
    clear hb
    have hng : ((!st).toNat : Int) = neg st := rfl
    have hn1 : 0 ≤ neg st ∧ neg st ≤ 1 := by unfold neg; cases st <;> decide
    rw [hng]
    generalize neg st = z at *
    have HN := Lib.hid (HK3.out.alloc 3 #[.int .i64 (1 + z)])
    --#x1
    go_wp2_with fail
    refine (HFk.out _ _ _ rfl (by simp) (by simp) _ (HTn.out.next HN.out.bel) (rints_new1 w3 (1 + z))).mono ?_
    rintro e w4 ⟨rfl, hb⟩
    have hbe := Lib.hid (HN.out.next hb).bel
    clear hb HN
    --#x9
    go_wp2_with fail
    exact bodyPost_ret (v := .tuple #[.string (ft ++ id), .bool true]) (by simp [results, Tryz.results17, go_sem]) rfl ⟨by rw [ho.out], hbe.out⟩
  · obtain ⟨hl, hz⟩ := HIdl.out _ g6
    have ho : out = .tuple #[.string (bytesOf (fmtL ([pb])) ++ id), .bool true] := by rw [HV.out _ hl]; rfl
    have hadd := HAdd.out ([pb]) id (by rw [hz]; decide)
    have HFk := Lib.hid (fun A c n hn hl hc V t r => HFm.out A c ([pb]) n hn hl hc V t r)
    generalize bytesOf (fmtL ([pb])) = ft at *
    replace ho := Lib.hid ho
    clear hl hz HAdd HFm HIdl HV hids
    have HN := Lib.hid (HV1.out.alloc 3 #[.int .i64 (pb)])
    --#t1
    go_wp2_with fail
    refine (HFk.out _ _ _ rfl (by simp) (by simp) _ (HTn.out.next HN.out.bel) (rints_new1 V1 (pb))).mono ?_
    rintro e w4 ⟨rfl, hb⟩
    have hbe := Lib.hid (HN.out.next hb).bel
    clear hb HN
    --#t9
    go_wp2_with fail
    exact bodyPost_ret (v := .tuple #[.string (ft ++ id), .bool true]) (by simp [results, Tryz.results17, go_sem]) rfl ⟨by rw [ho.out], hbe.out⟩
  · obtain ⟨hl, hz⟩ := HIdl.out _ g7
    have ho : out = .tuple #[.string (bytesOf (fmtL ([pr])) ++ id), .bool true] := by rw [HV.out _ hl]; rfl
    have hadd := HAdd.out ([pr]) id (by rw [hz]; decide)
    have HFk := Lib.hid (fun A c n hn hl hc V t r => HFm.out A c ([pr]) n hn hl hc V t r)
    generalize bytesOf (fmtL ([pr])) = ft at *
    replace ho := Lib.hid ho
    clear hl hz HAdd HFm HIdl HV hids
    have HN := Lib.hid (HV1.out.alloc 3 #[.int .i64 (pr)])
    --#c1
    go_wp2_with fail
    refine (HFk.out _ _ _ rfl (by simp) (by simp) _ (HTn.out.next HN.out.bel) (rints_new1 V1 (pr))).mono ?_
    rintro e w4 ⟨rfl, hb⟩
    have hbe := Lib.hid (HN.out.next hb).bel
    clear hb HN
    --#c9
    go_wp2_with fail
    exact bodyPost_ret (v := .tuple #[.string (ft ++ id), .bool true]) (by simp [results, Tryz.results17, go_sem]) rfl ⟨by rw [ho.out], hbe.out⟩
  · obtain ⟨hl, hz⟩ := HIdl.out _ g8
    have ho : out = .tuple #[.string (bytesOf (fmtL ([su])) ++ id), .bool true] := by rw [HV.out _ hl]; rfl
    have hadd := HAdd.out ([su]) id (by rw [hz]; decide)
    have HFk := Lib.hid (fun A c n hn hl hc V t r => HFm.out A c ([su]) n hn hl hc V t r)
    generalize bytesOf (fmtL ([su])) = ft at *
    replace ho := Lib.hid ho
    clear hl hz HAdd HFm HIdl HV hids
    have c25 : V1.cell? ⟨w.heap.size, 25, none⟩ = some (.int .i64 su) := Blk.cell HV1.out.b1 25
    have HN := Lib.hid (HV1.out.alloc 3 #[.int .i64 (su)])
    --#u1
    go_wp2_with fail
    refine (HFk.out _ _ _ rfl (by simp) (by simp) _ (HTn.out.next HN.out.bel) (rints_new1 V1 (su))).mono ?_
    rintro e w4 ⟨rfl, hb⟩
    have hbe := Lib.hid (HN.out.next hb).bel
    clear hb HN
    --#u9
    go_wp2_with fail
    exact bodyPost_ret (v := .tuple #[.string (ft ++ id), .bool true]) (by simp [results, Tryz.results17, go_sem]) rfl ⟨by rw [ho.out], hbe.out⟩
  · obtain ⟨hl, hz⟩ := HIdl.out _ g9
    have ho : out = .tuple #[.string (bytesOf (fmtL ([(bl.toNat : Int)])) ++ id), .bool true] := by rw [HV.out _ hl]; rfl
    have hadd := HAdd.out ([(bl.toNat : Int)]) id (by rw [hz]; decide)
    have HFk := Lib.hid (fun A c n hn hl hc V t r => HFm.out A c ([(bl.toNat : Int)]) n hn hl hc V t r)
    generalize bytesOf (fmtL ([(bl.toNat : Int)])) = ft at *
    replace ho := Lib.hid ho
    clear hl hz HAdd HFm HIdl HV hids
    have c26 : V1.cell? ⟨w.heap.size, 26, none⟩ = some (.bool bl) := Blk.cell HV1.out.b1 26
    go_wp2_with fail
    refine (HB4.out _).mono ?_
    rintro e w3 ⟨rfl, hb⟩
    have HK3 := Lib.hid (HV1.out.next hb)
    clear hb
    have HN := Lib.hid (HK3.out.alloc 3 #[.int .i64 ((bl.toNat : Int))])
    --#b1
    go_wp2_with fail
    refine (HFk.out _ _ _ rfl (by simp) (by simp) _ (HTn.out.next HN.out.bel) (rints_new1 w3 ((bl.toNat : Int)))).mono ?_
    rintro e w4 ⟨rfl, hb⟩
    have hbe := Lib.hid (HN.out.next hb).bel
    clear hb HN
    --#b9
    go_wp2_with fail
    exact bodyPost_ret (v := .tuple #[.string (ft ++ id), .bool true]) (by simp [results, Tryz.results17, go_sem]) rfl ⟨by rw [ho.out], hbe.out⟩
  · have ho : out = .tuple #[.string ⟨#[]⟩, .bool false] := by
      rw [HV.out _ rfl]
      have hne : ∀ l : List UInt8, (id.toList == l) = false → ¬ id.data.toList = l := fun l hl he => by
        rw [ByteArray.toList_eq, he] at hl
        simp at hl
      rw [if_neg (hne _ g0), if_neg (hne _ g1), if_neg (hne _ g2), if_neg (hne _ g3), if_neg (hne _ g4), if_neg (hne _ g5), if_neg (hne _ g6), if_neg (hne _ g7), if_neg (hne _ g8), if_neg (hne _ g9)]
    replace ho := Lib.hid ho
    clear HV HIdl hids
    --#z1
    go_wp2_with fail
    exact bodyPost_ret (v := .tuple #[.string ⟨#[]⟩, .bool false]) (by simp [results, Tryz.results17, go_sem]) rfl ⟨by rw [ho.out], HV1.out.bel⟩
end Go.Proofs.YtfnamfkjbkhgeaaGreatDoor

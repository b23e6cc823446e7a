/-
  The cursor, told by the program.
-/
import Derived.Test.YtfnamfkjbkhgeaaGreatDoorStaE
import Derived.Test.YtfnamfkjbkhgeaaGreatDoorParP
namespace Go.Proofs.YtfnamfkjbkhgeaaGreatDoor

open Go Go.RowKit

def itT (n : Int) : ByteArray := bytesOf (digs n)
theorem itT_any (n : Int) (h0 : 0 ≤ n) (h1 : n ≤ 65535) (w : World) (ht : Ten w) : Calls Tryz.prog 26 #[.int .i64 n] w fun e w' => e = .returned (.string (itT n)) ∧ Below w.heap.size w w' := by
  have := itoa_any n w ht
  rwa [show clipP n 0 65535 = n from by unfold clipP; omega] at this
theorem itT_len (n : Int) : (itT n).data.toList.length ≤ 5 := by unfold itT bytesOf; simpa using digs_len n
/-- Several texts, with a semicolon between. -/
def joinT (xs : List ByteArray) : ByteArray := ⟨(Lib.join (xs.map (·.data.toList)) [59]).toArray⟩
theorem lens_l9 (xs : List (List UInt8)) (h : ∀ x ∈ xs, x.length ≤ 9) : Lib.lens xs ≤ 9 * xs.length := by
  induction xs with
  | nil => simp [Lib.lens]
  | cons x xs ih =>
    have h1 := h x (by simp)
    have h2 := ih (fun y hy => h y (by simp [hy]))
    simp [Lib.lens] at h2 ⊢
    omega
theorem lens_le9 (xs : List (List UInt8)) (h : ∀ x ∈ xs, x.length ≤ 9) : (Lib.join xs [59]).length ≤ 10 * xs.length := by
  cases xs with
  | nil => simp [Lib.join_nil]
  | cons x r =>
    rw [Lib.join_length]
    have h2 := lens_l9 (x :: r) h
    simp at h2 ⊢
    omega
theorem joinS_any (bk c : Nat) (xs : List ByteArray) (hl : xs.length ≤ 30) (h9 : ∀ x ∈ xs, x.data.toList.length ≤ 9) (hc : xs.length ≤ c) (w : World) (hbk : bk < w.heap.size) (hcells : ∀ (j : Nat) x, xs[j]? = some x → w.cell? ⟨bk, 0 + j, none⟩ = some (.string x)) :
    Calls Tryz.prog 30 #[.slice (some ⟨bk, 0, none⟩) xs.length c, .string ⟨#[59]⟩] w fun e w' => e = .returned (.string (joinT xs)) ∧ Below w.heap.size w w' := by
  refine (Tryz.strings_Join bk 0 c xs ⟨#[59]⟩ w hcells hbk (by omega) hc ?_).mono fun e w' ⟨he, hb⟩ => ⟨he, hb⟩
  have := lens_le9 (xs.map (·.data.toList)) (fun x hx => by obtain ⟨y, hy, rfl⟩ := List.mem_map.1 hx; exact h9 y hy)
  rw [List.length_map] at this
  show (Lib.join _ [59]).length ≤ _
  omega
def isoY (y : Co) : Iso := ⟨y.K.a, y.K.b, y.K.c, y.K.d, y.K.l, y.K.r, y.K.s⟩
def szT (n : Nat) : ByteArray := ⟨#[UInt8.ofNat n]⟩
/-- The fields of the cursor of a core that is clean. -/
def curF (y : Co) : List ByteArray := [itT (y.r + 1), itT (y.c + 1), itT (y.pg + 1), sgnB y.K.rd.toNat, sgnB y.K.kp.toNat, sgnB (flgP y.wp y.K.og y.K.s), itT (leftP (isoY y)), itT (rightP (isoY y)), szT (sizP (isoY y) 4), idtP (isoY y) 4]
theorem dlenS (s : ByteArray) : s.data.toList.length = s.size := by rw [Array.length_toList]; rfl
theorem curF_len (y : Co) : ∀ x ∈ curF y, x.data.toList.length ≤ 9 := by
  intro x hx
  have h4 := idt_size (isoY y) 4
  simp only [curF, List.mem_cons, List.not_mem_nil, or_false] at hx
  rcases hx with rfl | rfl | rfl | rfl | rfl | rfl | rfl | rfl | rfl | rfl
  · exact Nat.le_trans (itT_len _) (by omega)
  · exact Nat.le_trans (itT_len _) (by omega)
  · exact Nat.le_trans (itT_len _) (by omega)
  · show 1 ≤ 9; omega
  · show 1 ≤ 9; omega
  · show 1 ≤ 9; omega
  · exact Nat.le_trans (itT_len _) (by omega)
  · exact Nat.le_trans (itT_len _) (by omega)
  · show 1 ≤ 9; omega
  · show (idtP (isoY y) 4).data.toList.length ≤ 9
    have e := dlenS (idtP (isoY y) 4)
    omega
/-- A letter that is a byte in memory of its own. -/
def B1F (B : Nat) (v : Int) (u : Value) (W : World) : Prop := ∃ g, u = .slice (some ⟨g, 0, none⟩) 1 1 ∧ B ≤ g ∧ Blk W g 5 #[.int .u8 v]
def B1P (u : Value) : Prop := ∃ g, u = .slice (some ⟨g, 0, none⟩) 1 1
theorem b1F_stab (ks : Kinds) (wr : World) (l : Int) (ht : 5 ∉ boxes ks) : ∀ v w w', Kept ks wr w w' → B1F wr.heap.size l v w → B1F wr.heap.size l v w' := by
  rintro v w w' hk ⟨g, e, hb, hh⟩
  refine ⟨g, e, hb, ?_⟩
  refine (hk.block g hh.lt hb (fun cs T fr e => by
    have e2 : some (Obj.cells #[.int .u8 l] 5 (0, 0)) = some (.cells cs T fr) := hh.symm.trans e
    injection e2 with e2
    injection e2 with _ e3 _
    rw [← e3]; exact ht)).trans hh
theorem sz_conv (W : World) (g : Nat) (n : Nat) (h : W.cell? ⟨g, 0, none⟩ = some (.int .u8 (n : Int))) : (convert 63 9 (.slice (some ⟨g, 0, none⟩) 1 1)).run Tryz.prog W = .ok (.string (szT n)) W := by
  rw [conv_one W g _ h]; rfl
/-- What is known of a core that is clean. -/
structure ClOk (y : Co) : Prop where
  r : 0 ≤ y.r ∧ y.r ≤ 60000
  c : 0 ≤ y.c ∧ y.c ≤ 60000
  rd : 0 ≤ y.K.rd ∧ y.K.rd ≤ 31
  pg : 0 ≤ y.pg ∧ y.pg ≤ 15
  lv : 1 ≤ y.lv ∧ y.lv ≤ 5
  su : 0 ≤ y.su ∧ y.su ≤ 2
  ps : 1 ≤ y.ps ∧ y.ps ≤ 16
  m : y.m < 131072
  h1 : y.f.pt = 0 ∧ y.f.pl = 0
  h2 : 1 ≤ y.f.pb ∧ y.f.pb ≤ 60000
  h3 : 1 ≤ y.f.pr ∧ y.f.pr ≤ 60000
  h4 : 0 ≤ y.f.mt ∧ y.f.mt < y.f.mb ∧ y.f.mb ≤ y.f.pb
  h5 : 0 ≤ y.f.ml ∧ y.f.ml < y.f.mr ∧ y.f.mr ≤ y.f.pr
theorem cl_ok {x : Co} {H W it il ib ir : Int} (h : FrOk x.f H W it il ib ir) : ClOk (clnP x H W it il ib ir) := by
  have hH := h.hH; have hW := h.hW; have hi := h.hi; have hj := h.hj
  have hc : 1 ≤ clipP x.ps 1 16 ∧ clipP x.ps 1 16 ≤ 16 := by unfold clipP; omega
  exact ⟨by simp only [clnP]; unfold clipP; omega, by simp only [clnP]; unfold clipP; omega, by simp only [clnP]; omega, by simp only [clnP]; generalize clipP x.ps 1 16 = q at *; unfold clipP; omega, by simp only [clnP]; unfold clipP; omega, by simp only [clnP]; unfold clipP; omega, by simp only [clnP]; exact hc, by simp only [clnP]; omega, ⟨rfl, rfl⟩, hH, hW, hi, hj⟩
theorem left_in (x : Iso) : 0 ≤ leftP x ∧ leftP x ≤ 3 := by
  unfold leftP isoInB
  split
  · rename_i h; simp at h; omega
  · omega
theorem right_in (x : Iso) : 0 ≤ rightP x ∧ rightP x ≤ 3 := by
  unfold rightP isoInB
  split
  · rename_i h; simp at h; omega
  · omega
set_option maxRecDepth 100000 in
set_option maxHeartbeats 8000000 in
theorem cursor_any {x : Co} {H W it il ib ir : Int} (h : FrOk x.f H W it il ib ir) (hr0 : 0 ≤ x.K.rd) (hr1 : x.K.rd ≤ 255) (hm : x.m < 2 ^ 32) (w : World) (ht : Tab w) (hfc : Faces w) (htn : Ten w) :
    Calls Tryz.prog 9 #[coV .u32 x] w fun e w' => e = .returned (.string (joinT (curF (clnP x H W it il ib ir)))) ∧ Below w.heap.size w w' := by
  have HCl := Lib.hid (fun V t f => cleanC_any h hr0 hr1 hm V t f)
  have hk := cl_ok h
  have HT := Lib.hid ht; have HF := Lib.hid hfc; have HTn := Lib.hid htn
  obtain ⟨y, hy⟩ : ∃ y, y = clnP x H W it il ib ir := ⟨_, rfl⟩
  rw [← hy] at HCl hk ⊢
  clear h hr0 hr1 hm ht hfc htn hy
  have HIt := Lib.hid (fun n h0 h1 V t => itT_any n h0 h1 V t)
  have HRp := Lib.hid (fun V t => report_any (isoY y) V t)
  have hlf := left_in (isoY y); have hrt := right_in (isoY y)
  have HS0 := Lib.hid (fun (n : Nat) h V => sign_any n h V)
  have HB0 := Lib.hid (fun V => bit_any y.K.kp V)
  have HFl := Lib.hid (fun V => flags_any y.r y.c y.wp y.K V)
  have hfl : flgP y.wp y.K.og y.K.s ≤ 15 := by
    unfold flgP
    have h1 : y.K.og.toNat ≤ 1 := by cases y.K.og <;> decide
    have h2 : y.wp.toNat ≤ 1 := by cases y.wp <;> decide
    split <;> (try split) <;> omega
  have hkp : y.K.kp.toNat ≤ 1 := by cases y.K.kp <;> decide
  have HJ := Lib.hid (fun bk V hbk hc => joinS_any bk 10 (curF y) (by show 10 ≤ 30; omega) (curF_len y) (by show 10 ≤ 10; omega) V hbk hc)
  have hk1 := hk.r; have hk2 := hk.c; have hk3 := hk.rd; have hk4 := hk.pg
  have HSz := Lib.hid (sz_conv)
  generalize joinT (curF y) = out at *
  unfold rptV Iso.val Iso.cs at HRp
  simp only [curF] at HJ
  have hsz := siz_le (isoY y) 4
  generalize leftP (isoY y) = gl at *
  generalize rightP (isoY y) = gr at *
  generalize sizP (isoY y) 4 = sz at *
  generalize idtP (isoY y) 4 = idt at *
  generalize flgP y.wp y.K.og y.K.s = fl at *
  have HI0 := Lib.hid (fun V t => HIt.out (y.r + 1) (by omega) (by omega) V t)
  have HI1 := Lib.hid (fun V t => HIt.out (y.c + 1) (by omega) (by omega) V t)
  have HI2 := Lib.hid (fun V t => HIt.out (y.pg + 1) (by omega) (by omega) V t)
  have HI6 := Lib.hid (fun V t => HIt.out gl (by omega) (by omega) V t)
  have HI7 := Lib.hid (fun V t => HIt.out gr (by omega) (by omega) V t)
  have HS3 := Lib.hid (fun V => HS0.out y.K.rd.toNat (by omega) V)
  rw [show ((y.K.rd.toNat : Nat) : Int) = y.K.rd from by omega] at HS3
  have HS4 := Lib.hid (fun V => HS0.out y.K.kp.toNat (by omega) V)
  have HS5 := Lib.hid (fun V => HS0.out fl (by omega) V)
  have HSz8 := Lib.hid (fun V g hh => HSz.out V g sz hh)
  generalize itT (y.r + 1) = t0 at *
  generalize itT (y.c + 1) = t1 at *
  generalize itT (y.pg + 1) = t2 at *
  generalize sgnB y.K.rd.toNat = t3 at *
  generalize hkz : y.K.kp.toNat = kz at *
  generalize sgnB kz = t4 at *
  generalize sgnB fl = t5 at *
  generalize itT gl = t6 at *
  generalize itT gr = t7 at *
  generalize szT sz = t8 at *
  clear hkz HIt HS0 HSz
  have hcx : Hid (coV .u32 x = .agg (coC .u32 x)) := Lib.hid rfl
  unfold coV at *
  have HS := Lib.hid ((Bs.nil w).alloc 45 (coC .u32 x))
  have hS1 := coS .u32 x; have hS2 := coS .u32 y; have hO1 := co_one .u32 x; have hO2 := co_one .u32 y
  clear hcx
  generalize coC .u32 x = X at *
  generalize hY : coC .u32 y = Y at *
  replace hY := Lib.hid hY
  go_enter Tryz.func9, Tryz.ntmps9
  go_upto_region 1 with fail
  --#0
  go_wp2_with (first | (refine wpList_load_row rfl _ _ rfl w.heap.size rfl _ X (0, 0) _ HS.out.b0 under_co rfl (by rw [hS1]; exact info_co) ?_))
  --#1
  refine (HCl.out _ (HT.out.next HS.out.bel) (HF.out.next HS.out.bel)).mono ?_
  rintro e w1 ⟨rfl, hb⟩
  have HK1 := Lib.hid (HS.out.next hb)
  clear hb HS
  go_upto_region 2 with (refine wpList_store_row rfl _ _ _ rfl w.heap.size Y rfl rfl _ _ HK1.out.b0 (by rw [hS2]; exact info_co) (by rw [hS1, hS2]) hO2 ?_)
  --#2
  refine world_gen (fun V => Bs w [(w.heap.size, 45, Y)] V) (HK1.out.row Y) ?_
  intro V0 HV
  replace HV := Lib.hid HV
  clear HK1 HCl HT hS1 hS2 hO1 hO2
  obtain ⟨r, c, wp, ⟨rd, kp, og, a, b, cc, d, l, rr, s⟩, ⟨pt, pl, pb, pr, mt, ml, mb, mr⟩, m, lv, eg, st, su, bl, pg, ps⟩ := y
  simp only [coC, isoY] at *
  rw [← hY.out] at HV
  clear hY
  unfold uV at HFl
  have c6 : V0.cell? ⟨w.heap.size, 6, none⟩ = some (.int .i64 a) := Blk.cell HV.out.b0 6
  have c7 : V0.cell? ⟨w.heap.size, 7, none⟩ = some (.int .i64 b) := Blk.cell HV.out.b0 7
  have c8 : V0.cell? ⟨w.heap.size, 8, none⟩ = some (.int .i64 cc) := Blk.cell HV.out.b0 8
  have c9 : V0.cell? ⟨w.heap.size, 9, none⟩ = some (.int .i64 d) := Blk.cell HV.out.b0 9
  have c10 : V0.cell? ⟨w.heap.size, 10, none⟩ = some (.int .i64 l) := Blk.cell HV.out.b0 10
  have c11 : V0.cell? ⟨w.heap.size, 11, none⟩ = some (.int .i64 rr) := Blk.cell HV.out.b0 11
  have c12 : V0.cell? ⟨w.heap.size, 12, none⟩ = some (.int .i64 s) := Blk.cell HV.out.b0 12
  go_wp2_with fail
  refine (HRp.out _ (HF.out.next HV.out.bel)).mono ?_
  rintro e w2 ⟨rfl, hb⟩
  have HK2 := Lib.hid (HV.out.next hb)
  clear hb HV c6 c7 c8 c9 c10 c11 c12
  go_upto_region 3 with fail
  --#3
  have HX := Lib.hid (fun w' (h : Only [] w2 w') => co29 (h.blk HK2.out.b0 (by simp)))
  have HTw := Lib.hid (fun w' (h : Only [] w2 w') => HTn.out.next (HK2.out.bel.trans (h.below0.mono HK2.out.bel.size)))
  have HBt : Hid (∀ V, Calls Tryz.prog 28 #[.bool kp] V fun e w' => e = .returned (.int .i64 (kz : Int)) ∧ Below V.heap.size V w') := Lib.hid (fun V => (HB0.out V).mono (by rintro e w'' ⟨rfl, rfl⟩; exact ⟨rfl, Below.refl _ _⟩))
  have wr0 : IntKind.i64.wrap (r + 1) = r + 1 := IntWalk.i64_in _ (by omega)
  have wr1 : IntKind.i64.wrap (c + 1) = c + 1 := IntWalk.i64_in _ (by omega)
  have wr2 : IntKind.i64.wrap (pg + 1) = pg + 1 := IntWalk.i64_in _ (by omega)
  have wr3 : IntKind.i64.wrap rd = rd := IntWalk.i64_in _ (by omega)
  clear HB0 HRp HF
  refine wp_region_mix_lit (by kernel_rfl) [(5, .call (.string t0)), (11, .call (.string t1)), (15, .call (.string t2)), (20, .call (.string t3)), (24, .call (.int .i64 (kz : Int))), (25, .call (.string t4)), (28, .call (.int .i64 (fl : Int))), (29, .call (.string t5)), (31, .call (.string t6)), (33, .call (.string t7)), (35, .letter B1P (B1F w2.heap.size sz)), (39, .alloc 40 78 #[.string ⟨#[]⟩, .string ⟨#[]⟩, .string ⟨#[]⟩, .string ⟨#[]⟩, .string ⟨#[]⟩, .string ⟨#[]⟩, .string ⟨#[]⟩, .string ⟨#[]⟩, .string ⟨#[]⟩, .string ⟨#[]⟩] (fun _ => #[.string t0, .string t1, .string t2, .string t3, .string t4, .string t5, .string t6, .string t7, .string t8, .string idt])), (40, .init 39)] (by kernel_rfl) (by kernel_rfl) (by kernel_rfl) (by rfl) (by simp [apartK] <;> omega) (by simp [startK]) (by simp only [List.forall_mem_cons]; exact ⟨trivial, trivial, trivial, trivial, trivial, trivial, trivial, trivial, trivial, trivial, b1F_stab _ _ _ (by simp [boxes, Kind.boxed]), trivial, trivial, by simp⟩) (⟨fun i => if i = 39 then .pointer (some ⟨w2.heap.size, 0, none⟩) else .slice (some ⟨0, 0, none⟩) 1 1, by simp only [List.forall_mem_cons]; exact ⟨trivial, trivial, trivial, trivial, trivial, trivial, trivial, trivial, trivial, trivial, ⟨0, rfl⟩, ⟨_, rfl, Nat.le_refl _⟩, trivial, by simp⟩⟩) (fun β hβ => ?_)
  repeat (
    refine lex_val (v := ?_) rfl rfl (fun w' hf => ?_) ?_
    rotate_left
    · obtain ⟨c0, c1, c2, c3, c4, c5, c6, c7, c8, c9, c10, c11, c12, c13, c14, c15, c16, c17, c18, c19, c20, c21, c22, c23, c24, c25, c26, c27, c28⟩ := HX.out w' hf.only; go_simp
      try rfl
    try simp only [Act.put, List.setIfInBounds_toArray, List.set_cons_zero, List.set_cons_succ])
  --#m0
  refine lex_call (f := 26) (args := ?_) rfl rfl (fun w' hf => ?_) (fun w' hf => ?_) ?_
  rotate_left
  · go_simp
    try rfl
  · exact HI0.out w' (HTw.out w' hf.only)
  try simp only [Act.put, List.setIfInBounds_toArray, List.set_cons_zero, List.set_cons_succ]
  repeat (
    refine lex_val (v := ?_) rfl rfl (fun w' hf => ?_) ?_
    rotate_left
    · obtain ⟨c0, c1, c2, c3, c4, c5, c6, c7, c8, c9, c10, c11, c12, c13, c14, c15, c16, c17, c18, c19, c20, c21, c22, c23, c24, c25, c26, c27, c28⟩ := HX.out w' hf.only; go_simp
      try rfl
    try simp only [Act.put, List.setIfInBounds_toArray, List.set_cons_zero, List.set_cons_succ])
  --#m1
  refine lex_call (f := 26) (args := ?_) rfl rfl (fun w' hf => ?_) (fun w' hf => ?_) ?_
  rotate_left
  · go_simp
    try rfl
  · exact HI1.out w' (HTw.out w' hf.only)
  try simp only [Act.put, List.setIfInBounds_toArray, List.set_cons_zero, List.set_cons_succ]
  repeat (
    refine lex_val (v := ?_) rfl rfl (fun w' hf => ?_) ?_
    rotate_left
    · obtain ⟨c0, c1, c2, c3, c4, c5, c6, c7, c8, c9, c10, c11, c12, c13, c14, c15, c16, c17, c18, c19, c20, c21, c22, c23, c24, c25, c26, c27, c28⟩ := HX.out w' hf.only; go_simp
      try rfl
    try simp only [Act.put, List.setIfInBounds_toArray, List.set_cons_zero, List.set_cons_succ])
  --#m2
  refine lex_call (f := 26) (args := ?_) rfl rfl (fun w' hf => ?_) (fun w' hf => ?_) ?_
  rotate_left
  · go_simp
    try rfl
  · exact HI2.out w' (HTw.out w' hf.only)
  try simp only [Act.put, List.setIfInBounds_toArray, List.set_cons_zero, List.set_cons_succ]
  repeat (
    refine lex_val (v := ?_) rfl rfl (fun w' hf => ?_) ?_
    rotate_left
    · obtain ⟨c0, c1, c2, c3, c4, c5, c6, c7, c8, c9, c10, c11, c12, c13, c14, c15, c16, c17, c18, c19, c20, c21, c22, c23, c24, c25, c26, c27, c28⟩ := HX.out w' hf.only; go_simp
      try rfl
    try simp only [Act.put, List.setIfInBounds_toArray, List.set_cons_zero, List.set_cons_succ])
  --#m3
  refine lex_call (f := 27) (args := ?_) rfl rfl (fun w' hf => ?_) (fun w' hf => ?_) ?_
  rotate_left
  · go_simp
    try rfl
  · exact HS3.out w'
  try simp only [Act.put, List.setIfInBounds_toArray, List.set_cons_zero, List.set_cons_succ]
  repeat (
    refine lex_val (v := ?_) rfl rfl (fun w' hf => ?_) ?_
    rotate_left
    · obtain ⟨c0, c1, c2, c3, c4, c5, c6, c7, c8, c9, c10, c11, c12, c13, c14, c15, c16, c17, c18, c19, c20, c21, c22, c23, c24, c25, c26, c27, c28⟩ := HX.out w' hf.only; go_simp
      try rfl
    try simp only [Act.put, List.setIfInBounds_toArray, List.set_cons_zero, List.set_cons_succ])
  --#m4
  refine lex_call (f := 28) (args := ?_) rfl rfl (fun w' hf => ?_) (fun w' hf => ?_) ?_
  rotate_left
  · go_simp
    try rfl
  · exact HBt.out w'
  try simp only [Act.put, List.setIfInBounds_toArray, List.set_cons_zero, List.set_cons_succ]
  --#m5
  refine lex_call (f := 27) (args := ?_) rfl rfl (fun w' hf => ?_) (fun w' hf => ?_) ?_
  rotate_left
  · go_simp
    try rfl
  · exact HS4.out w'
  try simp only [Act.put, List.setIfInBounds_toArray, List.set_cons_zero, List.set_cons_succ]
  repeat (
    refine lex_val (v := ?_) rfl rfl (fun w' hf => ?_) ?_
    rotate_left
    · obtain ⟨c0, c1, c2, c3, c4, c5, c6, c7, c8, c9, c10, c11, c12, c13, c14, c15, c16, c17, c18, c19, c20, c21, c22, c23, c24, c25, c26, c27, c28⟩ := HX.out w' hf.only; go_simp
      try rfl
    try simp only [Act.put, List.setIfInBounds_toArray, List.set_cons_zero, List.set_cons_succ])
  --#m6
  refine lex_call (f := 29) (args := ?_) rfl rfl (fun w' hf => ?_) (fun w' hf => ?_) ?_
  rotate_left
  · go_simp
    try rfl
  · exact HFl.out w'
  try simp only [Act.put, List.setIfInBounds_toArray, List.set_cons_zero, List.set_cons_succ]
  --#m7
  refine lex_call (f := 27) (args := ?_) rfl rfl (fun w' hf => ?_) (fun w' hf => ?_) ?_
  rotate_left
  · go_simp
    try rfl
  · exact HS5.out w'
  try simp only [Act.put, List.setIfInBounds_toArray, List.set_cons_zero, List.set_cons_succ]
  repeat (
    refine lex_val (v := ?_) rfl rfl (fun w' hf => ?_) ?_
    rotate_left
    · obtain ⟨c0, c1, c2, c3, c4, c5, c6, c7, c8, c9, c10, c11, c12, c13, c14, c15, c16, c17, c18, c19, c20, c21, c22, c23, c24, c25, c26, c27, c28⟩ := HX.out w' hf.only; go_simp
      try rfl
    try simp only [Act.put, List.setIfInBounds_toArray, List.set_cons_zero, List.set_cons_succ])
  --#m8
  refine lex_call (f := 26) (args := ?_) rfl rfl (fun w' hf => ?_) (fun w' hf => ?_) ?_
  rotate_left
  · go_simp
    try rfl
  · exact HI6.out w' (HTw.out w' hf.only)
  try simp only [Act.put, List.setIfInBounds_toArray, List.set_cons_zero, List.set_cons_succ]
  repeat (
    refine lex_val (v := ?_) rfl rfl (fun w' hf => ?_) ?_
    rotate_left
    · obtain ⟨c0, c1, c2, c3, c4, c5, c6, c7, c8, c9, c10, c11, c12, c13, c14, c15, c16, c17, c18, c19, c20, c21, c22, c23, c24, c25, c26, c27, c28⟩ := HX.out w' hf.only; go_simp
      try rfl
    try simp only [Act.put, List.setIfInBounds_toArray, List.set_cons_zero, List.set_cons_succ])
  --#m9
  refine lex_call (f := 26) (args := ?_) rfl rfl (fun w' hf => ?_) (fun w' hf => ?_) ?_
  rotate_left
  · go_simp
    try rfl
  · exact HI7.out w' (HTw.out w' hf.only)
  try simp only [Act.put, List.setIfInBounds_toArray, List.set_cons_zero, List.set_cons_succ]
  obtain ⟨g9, e9⟩ := (hβ 35 : B1P (β 35))
  repeat (
    refine lex_val (v := ?_) rfl rfl (fun w' hf => ?_) ?_
    rotate_left
    · go_simp
      try rfl
    try simp only [Act.put, List.setIfInBounds_toArray, List.set_cons_zero, List.set_cons_succ])
  refine lex_made rfl rfl (fun w' hf => ⟨.slice (some ⟨w'.heap.size, 0, none⟩) 1 1, w'.alloc (.cells #[.int .u8 (sz : Int)] 5), ?_, ⟨_, rfl⟩, ⟨_, rfl, hf.only.size, Blk.new _ _ _⟩, (Below.refl _ _).alloc (Nat.le_refl _) _⟩) ?_
  · go_simp
  try simp only [Act.put, List.setIfInBounds_toArray, List.set_cons_zero, List.set_cons_succ]
  --#4
  rw [e9]
  refine lex_val (v := .string t8) rfl rfl (fun w' hf => ?_) ?_
  · have h8 : B1F w2.heap.size sz (β 35) w' := hf.got 35 _ _ rfl (by kernel_rfl)
    rw [e9] at h8
    obtain ⟨g8, e8, _, hB8⟩ := h8
    have e7 : g9 = g8 := by simpa using e8
    have hcv := HSz8.out w' g9 (by rw [e7]; exact hB8.cell 0)
    clear e8 e7 hB8 hf
    go_simp
  try simp only [Act.put, List.setIfInBounds_toArray, List.set_cons_zero, List.set_cons_succ]
  repeat (
    refine lex_val (v := ?_) rfl rfl (fun w' hf => ?_) ?_
    rotate_left
    · go_simp
      try rfl
    try simp only [Act.put, List.setIfInBounds_toArray, List.set_cons_zero, List.set_cons_succ])
  --#5
  refine lex_alloc rfl rfl (fun w' => ?_) ?_
  · go_simp
  try simp only [Act.put, List.setIfInBounds_toArray, List.set_cons_zero, List.set_cons_succ]
  refine lex_init rfl rfl rfl (fun bl w' hb hf hB => ⟨_, exec_store_row 78 (.tmp 7) (.tmp 57) rfl hb rfl hB (by kernel_rfl) rfl (by kernel_rfl), row_repl hB _⟩) ?_
  try simp only [Act.put]
  refine lex_nil fun w3 he => ?_
  --#6
  obtain ⟨b9, hb9, hge, hB9⟩ := he.facts 39
  have HK3 := Lib.hid (Bs.made HK2.out he.only hge hB9)
  rw [hb9]
  clear hb9 he hβ HX HTw HI0 HI1 HI2 HI6 HI7 HS3 HS4 HS5 HFl HBt
  --#7
  go_wp2_with fail
  refine (HJ.out b9 _ HK3.out.b0.lt (fun j x hj => ?_)).mono ?_
  · rw [Nat.zero_add]
    refine (Blk.cell HK3.out.b0 j).trans ?_
    have h2 : (([t0, t1, t2, t3, t4, t5, t6, t7, t8, idt].map Value.string).toArray)[j]? = some (.string x) := by
      rw [List.getElem?_toArray, List.getElem?_map, hj]; rfl
    exact h2
  rintro e w4 ⟨rfl, hb⟩
  have hbe := Lib.hid (HK3.out.bel.trans (hb.mono HK3.out.bel.size))
  clear hb
  go_wp2_with fail
  go_ret
  exact ⟨rfl, hbe.out⟩
end Go.Proofs.YtfnamfkjbkhgeaaGreatDoor

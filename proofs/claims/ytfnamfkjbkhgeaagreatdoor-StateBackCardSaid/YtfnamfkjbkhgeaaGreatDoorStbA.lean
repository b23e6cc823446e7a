/-
  Cores: what is fixed.
  What was told of a state is brought back in any other one of that size, plainly.
-/
import Derived.Test.YtfnamfkjbkhgeaaGreatDoorStaH
import Derived.Test.YtfnamfkjbkhgeaaGreatDoorStaZ3
import Derived.Test.YtfnamfkjbkhgeaaGreatDoorStaM
namespace Go.Proofs.YtfnamfkjbkhgeaaGreatDoor

open Go Go.RowKit

theorem wpList_load_rowG {P : Program} {ops : Array Oper} {rest : List Oper} {o : Oper} {a : Act} {w : World} {Q : Exit → Act → World → Prop} (hw : Region.wanted o (yielded ops a.tmps) = true) (ty : TypeId) (x : Operand) (ho : o.op = .load ty x)
    (g : Nat) (hx : a.eval x = .pointer (some ⟨g, 0, none⟩)) (t : TypeId) (cs : Array Value) (fr : Nat × Nat) (d : TypeDesc) (hg : w.heap[g]? = some (.cells cs t fr))
    (hu : P.underlying ty = some d) (hd : (match d with | .struct _ | .array _ _ => true | _ => false) = true) (hi : (P.info? ty).map (·.size) = some cs.size)
    (h : wpList P ops Q rest (a.put o.dst (.agg cs)) w) : wpList P ops Q (o :: rest) a w := by
  unfold wpList
  rw [if_pos hw]
  exact .inl (wp_load_row ty x ho g hx t cs fr d hg hu hd hi h)
def stF : Fr := ⟨0, 0, 24, 80, 0, 0, 24, 80⟩
theorem stF_ok : FrOk stF 24 80 0 0 24 80 := ⟨by decide, by decide, by omega, by omega, ⟨0, 0, 24, 80, by decide, .inr ⟨by decide, rfl, rfl, rfl, rfl⟩⟩, by omega, by omega⟩
theorem dg1 (n : Nat) (h : n < 10) : Lib.decDigits n = [UInt8.ofNat (48 + n)] := by rw [Lib.decDigits, dif_pos h]
theorem dg2 (n : Nat) (h : ¬ n < 10) : Lib.decDigits n = Lib.decDigits (n / 10) ++ [UInt8.ofNat (48 + n % 10)] := by rw [Lib.decDigits, dif_neg h]
theorem g0 : digs 0 = [48] := dg1 0 (by omega)
theorem g1 : digs 1 = [49] := dg1 1 (by omega)
theorem g2 : digs 2 = [50] := dg1 2 (by omega)
theorem g5 : digs 5 = [53] := dg1 5 (by omega)
theorem g24 : digs 24 = [50, 52] := by show Lib.decDigits 24 = _; rw [dg2 24 (by omega), dg1 (24 / 10) (by omega)]; rfl
theorem g80 : digs 80 = [56, 48] := by show Lib.decDigits 80 = _; rw [dg2 80 (by omega), dg1 (80 / 10) (by omega)]; rfl
theorem g2948 : digs 2948 = [50, 57, 52, 56] := by show Lib.decDigits 2948 = _; rw [dg2 2948 (by omega), dg2 (2948 / 10) (by omega), dg2 (2948 / 10 / 10) (by omega), dg1 (2948 / 10 / 10 / 10) (by omega)]; rfl
theorem it_data (n : Int) : (itT n).data.toList = digs n := by unfold itT bytesOf; simp
def stY : Co := clnP (newP 24 80 3) 24 80 0 0 24 80
theorem iso_idt : idtP (isoY stY) 4 = ⟨#[66, 66, 37, 53, 37, 53]⟩ := by kernel_rfl
theorem iso_siz : sizP (isoY stY) 4 = 64 := by kernel_rfl
theorem iso_lr : leftP (isoY stY) = 0 ∧ rightP (isoY stY) = 2 := ⟨by kernel_rfl, by kernel_rfl⟩
theorem st_nums : nbrP stY = [5, 0, 0, 2948, 0, 0, 0, 0, 0, 24, 80, 0] := by kernel_rfl
theorem st_cur : curF stY = [itT 1, itT 1, itT 1, sgnB 0, sgnB 0, sgnB 0, itT 0, itT 2, szT 64, ⟨#[66, 66, 37, 53, 37, 53]⟩] := by
  unfold curF
  rw [iso_idt, iso_siz, iso_lr.1, iso_lr.2, show stY.r = 0 from by kernel_rfl, show stY.c = 0 from by kernel_rfl, show stY.pg = 0 from by kernel_rfl, show stY.K.rd = 0 from by kernel_rfl, show stY.K.kp = false from rfl, show stY.K.og = false from rfl, show stY.wp = false from rfl, show stY.K.s = 0 from by kernel_rfl]
  rfl
theorem aw_1 : (joinT (curF stY)).toList = [49, 59, 49, 59, 49, 59, 64, 59, 64, 59, 64, 59, 48, 59, 50, 59, 64, 59, 66, 66, 37, 53, 37, 53] := by
  rw [ByteArray.toList_eq, st_cur]
  unfold joinT
  simp only [List.map_cons, List.map_nil, it_data, g0, g1, g2]
  rfl
theorem aw_2 : (joinT ((nbrP stY).map itT)).toList = [53, 59, 48, 59, 48, 59, 50, 57, 52, 56, 59, 48, 59, 48, 59, 48, 59, 48, 59, 48, 59, 50, 52, 59, 56, 48, 59, 48] := by
  rw [ByteArray.toList_eq, st_nums]
  unfold joinT
  simp only [List.map_cons, List.map_nil, it_data, g0, g5, g24, g80, g2948]
  rfl
theorem aw_3 : (bytesOf (fmtL [1, 24]) ++ (⟨#[114]⟩ : ByteArray)).toList = [49, 59, 50, 52, 114] := by
  rw [ByteArray.toList_eq]
  unfold fmtL bytesOf
  simp only [List.take, List.map_cons, List.map_nil, g1, g24]
  rfl
theorem aw_stg : stgV stY ⟨#[114]⟩ = .tuple #[.string (bytesOf (fmtL [1, 24]) ++ ⟨#[114]⟩), .bool true] := by
  unfold stgV
  rw [show stgL stY [114] = some [1, 24] from by kernel_rfl]
set_option maxRecDepth 100000 in
set_option maxHeartbeats 8000000 in
theorem awakeS_any (w : World) (ht : Tab w) (hfc : Faces w) (htn : Ten w) (hmd : Mods w) : Calls Tryz.prog 6 #[] w fun e w' => e = .returned (.bool true) ∧ Below w.heap.size w w' := by
  have HNw := Lib.hid (fun V t => coNew_any 24 80 3 V t)
  have HSe := Lib.hid (fun V t f n => setting_any (x := newP 24 80 3) stF_ok (by decide) (by decide) (by decide) ⟨#[114]⟩ V t f n)
  have HCu := Lib.hid (fun V t f n => cursor_any (x := newP 24 80 3) stF_ok (by decide) (by decide) (by decide) V t f n)
  have HRe := Lib.hid (fun V t f n => rep_any (x := newP 24 80 3) stF_ok (by decide) (by decide) (by decide) V t f n)
  rw [show clnP (newP 24 80 3) 24 80 0 0 24 80 = stY from rfl] at HSe HCu HRe
  rw [aw_stg] at HSe
  have hs1 : ((joinT (curF stY)).toList == [49, 59, 49, 59, 49, 59, 64, 59, 64, 59, 64, 59, 48, 59, 50, 59, 64, 59, 66, 66, 37, 53, 37, 53]) = true := by rw [aw_1]; rfl
  have hs2 : ((joinT ((nbrP stY).map itT)).toList == [53, 59, 48, 59, 48, 59, 50, 57, 52, 56, 59, 48, 59, 48, 59, 48, 59, 48, 59, 48, 59, 50, 52, 59, 56, 48, 59, 48]) = true := by rw [aw_2]; rfl
  have hs3 : ((bytesOf (fmtL [1, 24]) ++ (⟨#[114]⟩ : ByteArray)).toList == [49, 59, 50, 52, 114]) = true := by rw [aw_3]; rfl
  have hT := Lib.hid ht; have hF := Lib.hid hfc; have hN := Lib.hid htn; have hM := Lib.hid hmd
  clear ht hfc htn hmd
  generalize joinT (curF stY) = t1 at *
  generalize joinT ((nbrP stY).map itT) = t2 at *
  generalize bytesOf (fmtL [1, 24]) ++ (⟨#[114]⟩ : ByteArray) = t3 at *
  have hS1 := coS .u32 (newP 24 80 3)
  have hO1 := co_one .u32 (newP 24 80 3)
  unfold coV at *
  generalize coC .u32 (newP 24 80 3) = X at *
  go_enter Tryz.func6, Tryz.ntmps6
  go_wp2_with fail
  refine (HNw.out _ hM.out).mono ?_
  rintro e w1 ⟨rfl, hb⟩
  have HK1 := Lib.hid hb
  clear hb
  --#1
  go_upto_region 2 with (refine wpList_store_row rfl _ _ _ rfl w1.heap.size X rfl rfl _ _ (Blk.new w1 _ _) (by rw [hS1]; exact info_co) (by rw [hS1]; rfl) hO1 ?_)
  have HK2 : Hid (Bs w [(w1.heap.size, 45, X)] (w1.alloc (.cells X 45))) := Lib.hid ((show Bs w [] w1 from ⟨fun x hx => (by cases hx), List.Pairwise.nil, HK1.out⟩).alloc 45 X)
  refine world_gen (fun V => Bs w [(w1.heap.size, 45, X)] V) (by rw [World.setRow_alloc_new]; exact HK2.out) ?_
  intro V0 HV
  generalize w1.heap.size = b1 at *
  replace HV := Lib.hid HV
  clear HK1 HK2 HNw hM hO1
  go_wp2_with (first | (refine wpList_load_row rfl _ _ rfl b1 rfl _ X (0, 0) _ HV.out.b0 under_co rfl (by rw [hS1]; exact info_co) ?_))
  refine (HSe.out _ (hT.out.next HV.out.bel) (hF.out.next HV.out.bel) (hN.out.next HV.out.bel)).mono ?_
  rintro e w2 ⟨rfl, hb⟩
  have HK2 := Lib.hid (HV.out.next hb)
  clear hb HV HSe
  --#2
  go_wp2_with (first | (refine wpList_load_row rfl _ _ rfl b1 rfl _ X (0, 0) _ HK2.out.b0 under_co rfl (by rw [hS1]; exact info_co) ?_))
  refine (HCu.out _ (hT.out.next HK2.out.bel) (hF.out.next HK2.out.bel) (hN.out.next HK2.out.bel)).mono ?_
  rintro e w3 ⟨rfl, hb⟩
  have HK3 := Lib.hid (HK2.out.next hb)
  clear hb HK2 HCu
  --#3
  go_wp2_with (first | (refine wpList_load_rowG rfl _ _ rfl b1 rfl _ X (0, 0) _ HK3.out.b0 under_co rfl (by rw [hS1]; exact info_co) ?_))
  refine (HRe.out _ (hT.out.next HK3.out.bel) (hF.out.next HK3.out.bel) (hN.out.next HK3.out.bel)).mono ?_
  rintro e w4 ⟨rfl, hb⟩
  have HK4 := Lib.hid (HK3.out.next hb)
  clear hb HK3 HRe
  --#4
  go_wp2_with fail
  go_ret
  exact ⟨rfl, HK4.out.bel⟩
end Go.Proofs.YtfnamfkjbkhgeaaGreatDoor

namespace Go.Proofs.YtfnamfkjbkhgeaaGreatDoor
open Go Go.RowKit

theorem cut_join : ∀ ls : List (List UInt8), ls ≠ [] → (∀ l ∈ ls, (59 : UInt8) ∉ l) → cutW [] (Lib.join ls [59]) = ls
  | [], h, _ => absurd rfl h
  | [l], _, h => by rw [Lib.join_one, cutW_miss _ _ (h l (by simp))]; rfl
  | l :: m :: ls, _, h => by
    have e : Lib.join (l :: m :: ls) [59] = l ++ 59 :: Lib.join (m :: ls) [59] := by simp [Lib.join, List.intercalate, List.intersperse]
    rw [e, cutW_hit _ _ _ (h l (by simp)), cut_join (m :: ls) (by simp) (fun x hx => h x (by rw [List.mem_cons]; exact .inr hx))]
    rfl
theorem fld_join (xs : List ByteArray) (h0 : xs ≠ []) (h : ∀ x ∈ xs, (59 : UInt8) ∉ x.data.toList) : fldsR (joinT xs) = xs := by
  apply data_inj
  rw [flds_cut]
  show cutW [] (Lib.join (xs.map (·.data.toList)) [59]).toArray.toList = _
  rw [List.toList_toArray, cut_join _ (by intro e; exact h0 (List.map_eq_nil_iff.1 e)) (fun l hl => by
    obtain ⟨x, hx, rfl⟩ := List.mem_map.1 hl
    exact h x hx)]
theorem it_fmt (n : Int) : (itT n).data.toList = fmtL [n] := by
  rw [it_data]
  unfold fmtL
  rw [show ([n].take 30).map digs = [digs n] from rfl, Lib.join_one]
theorem ref_it (n : Int) (h0 : 0 ≤ n) (h1 : n ≤ 65535) : refNum (itT n) = n := by
  have hb := fmt_back [n]
  unfold refNum
  rw [it_fmt, parseV_yes hb.1, hb.2]
  show clip65 n = n
  unfold clip65 clipP
  omega
theorem sg_toNat (n : Nat) (h : n ≤ 63) : ((sgnB n).data.toList.getD 0 0).toNat = 64 + n := by
  show (UInt8.ofNat (64 + n)).toNat = _
  simp [UInt8.toNat_ofNat']
  omega
theorem ref_sg (n : Nat) (m : Int) (h : n ≤ 63) (hm : (n : Int) ≤ m) : refBit (sgnB n) m = n := by
  unfold refBit
  rw [sg_toNat n h, if_pos ⟨rfl, by omega, by omega⟩]
  omega
theorem sz_toNat (n : Nat) (h : n ≤ 79) : ((szT n).data.toList.getD 0 0).toNat = n := by
  show (UInt8.ofNat n).toNat = _
  simp [UInt8.toNat_ofNat']
  omega
theorem ref_sz (n : Nat) (h0 : 64 ≤ n) (h : n ≤ 79) : refBit (szT n) 15 = (n : Int) - 64 := by
  unfold refBit
  rw [sz_toNat n h, if_pos ⟨rfl, by omega, by omega⟩]
theorem it_no (n : Int) : (59 : UInt8) ∉ (itT n).data.toList := by
  rw [it_data]
  intro h
  have := (digs_facts n).2.1 _ h
  revert this
  decide
theorem one_no (k : Nat) (h : 64 ≤ k) (h1 : k ≤ 255) : (59 : UInt8) ∉ (⟨#[UInt8.ofNat k]⟩ : ByteArray).data.toList := by
  intro hm
  have e : (59 : UInt8) = UInt8.ofNat k := by simpa using hm
  have e2 := congrArg UInt8.toNat e
  simp [UInt8.toNat_ofNat'] at e2
  omega
theorem id_no : ∀ k, k < 18 → (59 : UInt8) ∉ (cIdP k).data.toList := by decide +kernel
theorem idt_no (x : Iso) : ∀ k, (59 : UInt8) ∉ (idtP x k).data.toList
  | 0 => by intro h; cases h
  | k + 1 => by
    show (59 : UInt8) ∉ (idtP x k ++ cIdP (setN (x.at_ k))).data.toList
    rw [ByteArray.data_append, Array.toList_append, List.mem_append]
    rintro (h | h)
    · exact idt_no x k h
    · exact id_no _ (setN_lt _) h
theorem flg_le (wp og : Bool) (s : Int) : flgP wp og s ≤ 15 := by
  unfold flgP
  have h1 : og.toNat ≤ 1 := by cases og <;> decide
  have h2 : wp.toNat ≤ 1 := by cases wp <;> decide
  split <;> (try split) <;> omega
theorem cur_no (y : Co) (hk : ClOk y) : ∀ x ∈ curF y, (59 : UInt8) ∉ x.data.toList := by
  have hz := siz_le (isoY y) 4
  have hrd := hk.rd
  have hf := flg_le y.wp y.K.og y.K.s
  have hkp : y.K.kp.toNat ≤ 1 := by cases y.K.kp <;> decide
  intro x hx
  unfold curF at hx
  simp only [List.mem_cons, List.not_mem_nil, or_false] at hx
  rcases hx with rfl | rfl | rfl | rfl | rfl | rfl | rfl | rfl | rfl | rfl
  · exact it_no _
  · exact it_no _
  · exact it_no _
  · exact one_no _ (by omega) (by omega)
  · exact one_no _ (by omega) (by omega)
  · exact one_no _ (by omega) (by omega)
  · exact it_no _
  · exact it_no _
  · exact one_no _ (by omega) (by omega)
  · exact idt_no _ _
/-- A state that is clean counts as it is. -/
theorem cln_self (y : Co) (hk : ClOk y) (h2 : ClOk2 y) : clnP y y.f.pb y.f.pr y.f.mt y.f.ml y.f.mb y.f.mr = y := by
  have e1 : clipP y.r 0 (y.f.pb - 1) = y.r := by have := hk.r; have := h2.r; unfold clipP; omega
  have e2 : clipP y.c 0 (y.f.pr - 1) = y.c := by have := hk.c; have := h2.c; unfold clipP; omega
  have e3 : y.K.rd % 32 = y.K.rd := by have := hk.rd; omega
  have e4 : glP y.K.l = y.K.l := by have := h2.l; unfold glP isoInB; rw [if_pos (by simp; omega)]
  have e5 : grP y.K.r = y.K.r := by have := h2.r3; unfold grP isoInB; rw [if_pos (by simp; omega)]
  have e6 : sgP y.K.s = y.K.s := by rcases h2.s with h | h | h <;> rw [h] <;> rfl
  have e7 : y.m % 131072 = y.m := Nat.mod_eq_of_lt hk.m
  have e8 : clipP y.lv 1 5 = y.lv := by have := hk.lv; unfold clipP; omega
  have e9 : clipP y.su 0 2 = y.su := by have := hk.su; unfold clipP; omega
  have ea : clipP y.ps 1 16 = y.ps := by have := hk.ps; unfold clipP; omega
  have eb : clipP y.pg 0 (y.ps - 1) = y.pg := by have := hk.pg; have := h2.pg; unfold clipP; omega
  have hf : (⟨0, 0, y.f.pb, y.f.pr, y.f.mt, y.f.ml, y.f.mb, y.f.mr⟩ : Fr) = y.f := by
    have h1 := hk.h1.1; have h2 := hk.h1.2
    cases hy : y.f
    rw [hy] at h1 h2
    simp only at h1 h2
    rw [h1, h2]
  unfold clnP
  rw [ea, e1, e2, e3, e4, e5, e6, e7, e8, e9, eb, hf]
theorem flg_bits : ∀ (wp og : Bool), (∀ s : Nat, s = 0 ∨ s = 2 ∨ s = 3 → (flgP wp og (s : Int) / 2 % 4 == 3) = false ∧ docS (flgP wp og (s : Int) : Nat) = (s : Int) ∧ (((flgP wp og (s : Int) : Nat) : Int).tmod 2 == 1) = og ∧ decide (8 ≤ ((flgP wp og (s : Int) : Nat) : Int)) = wp) := by
  intro wp og s hs
  rcases hs with rfl | rfl | rfl <;> cases wp <;> cases og <;> decide +kernel
/-- The cursor that was told, brought back. -/
theorem told_back (c o : Co) (hc : ClOk c) (hc2 : ClOk2 c) (ho : ClOk o) (_ho2 : ClOk2 o) (hg : goodI (isoY c)) (hr : 0 < c.K.r) (hb : o.f.pb = c.f.pb) (hw : o.f.pr = c.f.pr) (hps : o.ps = c.ps) (hl : leftP (isoY c) = c.K.l ∧ rightP (isoY c) = c.K.r) :
    docP o (dcN (itT (c.r + 1)) (itT (c.c + 1)) (itT (c.pg + 1)) (sgnB c.K.rd.toNat) (sgnB c.K.kp.toNat) (sgnB (flgP c.wp c.K.og c.K.s)) (itT (leftP (isoY c))) (itT (rightP (isoY c))) (szT (sizP (isoY c) 4))) (idtP (isoY c) 4) = (⟨c.r, c.c, c.wp, c.K, o.f, o.m, o.lv, o.eg, o.st, o.su, o.bl, c.pg, o.ps⟩, true) := by
  have hz := siz_le (isoY c) 4
  have hrd := hc.rd; have hcr := hc.r; have hcc := hc.c; have hcp := hc.pg
  have hl3 := hc2.l; have hr3 := hc2.r3
  have hf := flg_le c.wp c.K.og c.K.s
  have hkp : c.K.kp.toNat ≤ 1 := by cases c.K.kp <;> decide
  obtain ⟨n, hn⟩ : ∃ n, n = dcN (itT (c.r + 1)) (itT (c.c + 1)) (itT (c.pg + 1)) (sgnB c.K.rd.toNat) (sgnB c.K.kp.toNat) (sgnB (flgP c.wp c.K.og c.K.s)) (itT (leftP (isoY c))) (itT (rightP (isoY c))) (szT (sizP (isoY c) 4)) := ⟨_, rfl⟩
  rw [← hn]
  have n0 : n 0 = c.r + 1 := by rw [hn]; exact ref_it _ (by omega) (by omega)
  have n1 : n 1 = c.c + 1 := by rw [hn]; exact ref_it _ (by omega) (by omega)
  have n2 : n 2 = c.pg + 1 := by rw [hn]; exact ref_it _ (by omega) (by omega)
  have n3 : n 3 = c.K.rd := by rw [hn]; exact (ref_sg _ 31 (by omega) (by omega)).trans (by omega)
  have n4 : n 4 = (c.K.kp.toNat : Int) := by rw [hn]; exact ref_sg _ 1 (by omega) (by omega)
  have n5 : n 5 = (flgP c.wp c.K.og c.K.s : Int) := by rw [hn]; exact ref_sg _ 15 (by omega) (by omega)
  have n6 : n 6 = leftP (isoY c) := by rw [hn]; exact ref_it _ (by rw [hl.1]; omega) (by rw [hl.1]; omega)
  have n7 : n 7 = rightP (isoY c) := by rw [hn]; exact ref_it _ (by rw [hl.2]; omega) (by rw [hl.2]; omega)
  have n8 : n 8 = (sizP (isoY c) 4 : Int) - 64 := by rw [hn]; exact ref_sz _ (by omega) (by omega)
  clear hn
  have hok : dcOk n = true := by
    unfold dcOk
    simp only [Bool.and_eq_true, decide_eq_true_eq]
    rw [n0, n1, n2, n3, n4, n5, n6, n7, n8, hl.1, hl.2]
    omega
  have hR : docR o n (idtP (isoY c) 4) = (⟨c.K.a, c.K.b, c.K.c, c.K.d, c.K.l, c.K.r, o.K.s⟩, true) := by
    unfold docR
    rw [n6, n7, n8, show 64 + ((sizP (isoY c) 4 : Int) - 64).toNat = sizP (isoY c) 4 by omega, rest_good (isoY c) (isoY o) hg (by rw [hl.2]; exact hr), hl.1, hl.2]
    rfl
  obtain ⟨s, hs, hsc⟩ : ∃ s : Nat, (s = 0 ∨ s = 2 ∨ s = 3) ∧ c.K.s = (s : Int) := by
    rcases hc2.s with h | h | h
    · exact ⟨0, .inl rfl, h⟩
    · exact ⟨2, .inr (.inl rfl), h⟩
    · exact ⟨3, .inr (.inr rfl), h⟩
  obtain ⟨b1, b2, b3, b4⟩ := flg_bits c.wp c.K.og s hs
  rw [← hsc] at b1 b2 b3 b4
  have hok2 : docOk o n (idtP (isoY c) 4) = true := by
    unfold docOk
    rw [hR, n5, Int.toNat_natCast, b1]
    rfl
  unfold docP
  rw [hok, hok2, Bool.true_and, if_pos rfl, hR]
  have hY : docY o n ⟨c.K.a, c.K.b, c.K.c, c.K.d, c.K.l, c.K.r, o.K.s⟩ = ⟨c.r, c.c, c.wp, c.K, o.f, o.m, o.lv, o.eg, o.st, o.su, o.bl, c.pg, o.ps⟩ := by
    unfold docY
    rw [n0, n1, n2, n3, n4, n5, b2, b3, b4, show c.r + 1 - 1 = c.r by omega, show c.c + 1 - 1 = c.c by omega, show c.pg + 1 - 1 = c.pg by omega, show ((c.K.kp.toNat : Int) == 1) = c.K.kp from by cases c.K.kp <;> rfl]
  rw [hY]
  have hcl := cln_self ⟨c.r, c.c, c.wp, c.K, o.f, o.m, o.lv, o.eg, o.st, o.su, o.bl, c.pg, o.ps⟩ ⟨hc.r, hc.c, hc.rd, hc.pg, ho.lv, ho.su, ho.ps, ho.m, ho.h1, ho.h2, ho.h3, ho.h4, ho.h5⟩ ⟨by show c.r ≤ o.f.pb - 1; rw [hb]; exact hc2.r, by show c.c ≤ o.f.pr - 1; rw [hw]; exact hc2.c, hc2.l, hc2.r3, hc2.s, by show c.pg ≤ o.ps - 1; rw [hps]; exact hc2.pg⟩
  unfold clnY
  rw [show clnP ⟨c.r, c.c, c.wp, c.K, o.f, o.m, o.lv, o.eg, o.st, o.su, o.bl, c.pg, o.ps⟩ o.f.pb o.f.pr o.f.mt o.f.ml o.f.mb o.f.mr = ⟨c.r, c.c, c.wp, c.K, o.f, o.m, o.lv, o.eg, o.st, o.su, o.bl, c.pg, o.ps⟩ from hcl]
/-- What else was told, brought back. -/
theorem rep_back (c o : Co) (hc : ClOk c) (ho : ClOk o) (hb : o.f.pb = c.f.pb) (hw : o.f.pr = c.f.pr) (hps : o.ps = c.ps) :
    okL o (parseV (joinT ((nbrP c).map itT)).data.toList).1 (parseV (joinT ((nbrP c).map itT)).data.toList).2 = true ∧ thenL o (parseV (joinT ((nbrP c).map itT)).data.toList).1 = ⟨o.r, o.c, o.wp, ⟨o.K.rd, o.K.kp, c.K.og, o.K.a, o.K.b, o.K.c, o.K.d, o.K.l, o.K.r, o.K.s⟩, c.f, c.m, c.lv, c.eg, c.st, c.su, c.bl, o.pg, c.ps⟩ := by
  have ht : (joinT ((nbrP c).map itT)).data.toList = fmtL (nbrP c) := by
    show (Lib.join (((nbrP c).map itT).map (·.data.toList)) [59]).toArray.toList = _
    rw [List.toList_toArray, List.map_map]
    unfold fmtL
    rw [show (nbrP c).take 30 = nbrP c from rfl]
    congr 1
    try exact List.map_congr_left (fun n _ => it_data n)
  have hbk := fmt_back (nbrP c)
  have hnum : (nbrP c).map clip65 = nbrP c := by
    have := num_in hc
    conv => rhs; rw [← List.map_id (nbrP c)]
    refine List.map_congr_left (fun n hn => ?_)
    have := this n hn
    show clip65 n = n
    unfold clip65 clipP
    omega
  rw [ht, parseV_yes hbk.1, hbk.2, show (nbrP c).take 30 = nbrP c from rfl, hnum]
  have hb2 : ∀ b : Bool, b.toNat ≤ 1 := fun b => by cases b <;> decide
  have b1 := hb2 c.eg; have b2 := hb2 c.st; have b3 := hb2 c.bl; have b4 := hb2 c.K.og
  have hm := hc.m; have hlv := hc.lv; have hsu := hc.su; have h4 := hc.h4; have h5 := hc.h5
  have hq : ∀ b : Bool, ((b.toNat : Int) == 1) = b := fun b => by cases b <;> rfl
  constructor
  · show (((0 : Int) == 0) && okN o c.lv c.eg.toNat (c.m / 4096 : Nat) (c.m % 4096 : Nat) c.st.toNat c.su c.bl.toNat c.f.mt c.f.ml c.f.mb c.f.mr c.K.og.toNat) = true
    unfold okN
    rw [hb, hw]
    simp only [beq_self_eq_true, Bool.true_and, decide_eq_true_eq]
    omega
  · show thenP o c.lv c.eg.toNat (c.m / 4096 : Nat) (c.m % 4096 : Nat) c.st.toNat c.su c.bl.toNat c.f.mt c.f.ml c.f.mb c.f.mr c.K.og.toNat = _
    unfold thenP
    have hf : (⟨o.f.pt, o.f.pl, o.f.pb, o.f.pr, c.f.mt, c.f.ml, c.f.mb, c.f.mr⟩ : Fr) = c.f := by
      have h1 := hc.h1.1; have h2 := hc.h1.2; have h3 := ho.h1.1; have h4 := ho.h1.2
      rw [h3, h4, hb, hw]
      cases hy : c.f
      rw [hy] at h1 h2
      simp only at h1 h2
      rw [h1, h2]
    rw [hf, hq, hq, hq, hq, hps, show (((c.m / 4096 : Nat) : Int) * 4096 + ((c.m % 4096 : Nat) : Int)).toNat = c.m by omega]
/-- A set that may be told. -/
def fxS (i : Nat) (s : Int) : Int := if s < 1 ∨ 17 < s ∨ (i = 0 ∧ s = 5) then 1 else s
def coG (z : Co) (a b c d : Int) : Co := ⟨z.r, z.c, z.wp, ⟨z.K.rd, z.K.kp, z.K.og, a, b, c, d, z.K.l, z.K.r, z.K.s⟩, z.f, z.m, z.lv, z.eg, z.st, z.su, z.bl, z.pg, z.ps⟩
def coR (z : Co) (r : Int) : Co := ⟨z.r, z.c, z.wp, ⟨z.K.rd, z.K.kp, z.K.og, z.K.a, z.K.b, z.K.c, z.K.d, z.K.l, r, z.K.s⟩, z.f, z.m, z.lv, z.eg, z.st, z.su, z.bl, z.pg, z.ps⟩
def coM (z : Co) : Co := coR (coG z (fxS 0 z.K.a) (fxS 1 z.K.b) (fxS 2 z.K.c) (fxS 3 z.K.d)) (if z.K.r = 0 then 2 else z.K.r)
theorem fx_in (i : Nat) (s : Int) : 1 ≤ fxS i s ∧ fxS i s ≤ 17 ∧ (i = 0 → fxS i s ≠ 5) := by
  unfold fxS
  split
  · omega
  · rename_i h
    refine ⟨by omega, by omega, fun hi h5 => h (.inr (.inr ⟨hi, h5⟩))⟩
theorem mend_good (z : Co) (H W it il ib ir : Int) : goodI (isoY (clnP (coM z) H W it il ib ir)) ∧ 0 < (clnP (coM z) H W it il ib ir).K.r := by
  constructor
  · intro g hg
    match g, hg with
    | 0, _ => have := fx_in 0 z.K.a; exact ⟨this.1, this.2.1, fun _ => this.2.2 rfl⟩
    | 1, _ => have := fx_in 1 z.K.b; exact ⟨this.1, this.2.1, fun h => absurd h (by decide)⟩
    | 2, _ => have := fx_in 2 z.K.c; exact ⟨this.1, this.2.1, fun h => absurd h (by decide)⟩
    | 3, _ => have := fx_in 3 z.K.d; exact ⟨this.1, this.2.1, fun h => absurd h (by decide)⟩
  · show 0 < grP (if z.K.r = 0 then 2 else z.K.r)
    by_cases h0 : z.K.r = 0
    · rw [if_pos h0]; decide
    · rw [if_neg h0]
      unfold grP
      by_cases h : isoInB 0 z.K.r = true
      · rw [if_pos h]
        unfold isoInB at h
        simp only [Bool.and_eq_true, decide_eq_true_eq] at h
        omega
      · rw [if_neg h]; omega
/-- Another state of that size. -/
def coP (o y : Co) : Co := ⟨o.r, o.c, o.wp, o.K, ⟨y.f.pt, y.f.pl, y.f.pb, y.f.pr, o.f.mt, o.f.ml, o.f.mb, o.f.mr⟩, o.m, o.lv, o.eg, o.st, o.su, o.bl, o.pg, y.ps⟩
def coW (o y : Co) : Co := ⟨y.r, y.c, y.wp, y.K, o.f, o.m, o.lv, o.eg, o.st, o.su, o.bl, y.pg, o.ps⟩
def coA (y o : Co) : Co := ⟨o.r, o.c, o.wp, ⟨o.K.rd, o.K.kp, y.K.og, o.K.a, o.K.b, o.K.c, o.K.d, o.K.l, o.K.r, o.K.s⟩, y.f, y.m, y.lv, y.eg, y.st, y.su, y.bl, o.pg, y.ps⟩
/-- What the law's two calls answer. -/
theorem back_calls {x x' : Co} (hx : x.f.pb ≤ 60000 ∧ x.f.pr ≤ 60000) (r0 : 0 ≤ x.K.rd) (r1 : x.K.rd ≤ 255) (r2 : 0 ≤ x'.K.rd) (r3 : x'.K.rd ≤ 255) :
    ∃ y o : Co, y.m < 2 ^ 32 ∧ o.m < 2 ^ 32 ∧ (coW o y).m < 2 ^ 32 ∧ (coA y o).m < 2 ^ 32 ∧
      (∀ w, Calls Tryz.prog 14 #[coV .i64 (coM x)] w fun e w' => e = .returned (coV .i64 y) ∧ Below w.heap.size w w') ∧
      (∀ w, Calls Tryz.prog 14 #[coV .i64 (coP x' y)] w fun e w' => e = .returned (coV .i64 o) ∧ Below w.heap.size w w') ∧
      (∀ w, Tab w → Faces w → Ten w → Calls Tryz.prog 9 #[coV .u32 y] w fun e w' => e = .returned (.string (joinT (curF y))) ∧ Below w.heap.size w w') ∧
      (∀ w, Tab w → Faces w → Ten w → Calls Tryz.prog 16 #[coV .u32 y] w fun e w' => e = .returned (.string (joinT ((nbrP y).map itT))) ∧ Below w.heap.size w w') ∧
      (∀ w, Tab w → Faces w → Blanks w → Calls Tryz.prog 11 #[coV .u32 o, .string (joinT (curF y))] w fun e w' => e = .returned (.tuple #[coV .u32 (coW o y), .int .i64 0]) ∧ Below w.heap.size w w') ∧
      (∀ w, Tab w → Faces w → Calls Tryz.prog 15 #[coV .u32 o, .string (joinT ((nbrP y).map itT))] w fun e w' => e = .returned (.tuple #[coV .u32 (coA y o), .int .i64 0]) ∧ Below w.heap.size w w') := by
  obtain ⟨H, W, it, il, ib, ir, hf⟩ := fr_ok (coM x).f hx.1 hx.2
  obtain ⟨y, hy⟩ : ∃ y, y = clnP (coM x) H W it il ib ir := ⟨_, rfl⟩
  have hy1 : ClOk y := by rw [hy]; exact cl_ok hf
  have hy2 : ClOk2 y := by rw [hy]; exact cl_ok2 hf
  have hyf : FrOk y.f y.f.pb y.f.pr y.f.mt y.f.ml y.f.mb y.f.mr := by rw [hy]; exact fr_clean hf
  have hyl : leftP (isoY y) = y.K.l ∧ rightP (isoY y) = y.K.r := by rw [hy]; exact cl_lr _ _ _ _ _ _ _
  have hyg : goodI (isoY y) ∧ 0 < y.K.r := by rw [hy]; exact mend_good x _ _ _ _ _ _
  have hH := hf.hH; have hW := hf.hW
  have hyH : y.f.pb = H ∧ y.f.pr = W := by rw [hy]; exact ⟨rfl, rfl⟩
  obtain ⟨H', W', it', il', ib', ir', hf'⟩ := fr_ok (coP x' y).f (by show y.f.pb ≤ 60000; omega) (by show y.f.pr ≤ 60000; omega)
  have eH : y.f.pb = H' := by have h : max y.f.pb 1 = H' := hf'.eH; omega
  have eW : y.f.pr = W' := by have h : max y.f.pr 1 = W' := hf'.eW; omega
  obtain ⟨o, ho⟩ : ∃ o, o = clnP (coP x' y) H' W' it' il' ib' ir' := ⟨_, rfl⟩
  have ho1 : ClOk o := by rw [ho]; exact cl_ok hf'
  have ho2 : ClOk2 o := by rw [ho]; exact cl_ok2 hf'
  have hof : FrOk o.f o.f.pb o.f.pr o.f.mt o.f.ml o.f.mb o.f.mr := by rw [ho]; exact fr_clean hf'
  have hoH : o.f.pb = y.f.pb ∧ o.f.pr = y.f.pr := by rw [ho, eH, eW]; exact ⟨rfl, rfl⟩
  have hops : o.ps = y.ps := by rw [ho]; show clipP y.ps 1 16 = y.ps; have := hy1.ps; unfold clipP; omega
  have my : y.m < 2 ^ 32 := by have := hy1.m; omega
  have mo : o.m < 2 ^ 32 := by have := ho1.m; omega
  have cy := cln_self y hy1 hy2
  have co := cln_self o ho1 ho2
  have ry := hy1.rd; have ro := ho1.rd
  refine ⟨y, o, my, mo, mo, my, fun w => ?_, fun w => ?_, fun w t f n => ?_, fun w t f n => ?_, fun w t f b => ?_, fun w t f => ?_⟩
  · rw [hy]; exact refCleanC_any hf r0 r1 w
  · rw [ho]; exact refCleanC_any hf' r2 r3 w
  · have h := cursor_any hyf (by omega) (by omega) my w t f n
    rw [cy] at h
    exact h
  · have h := rep_any hyf (by omega) (by omega) my w t f n
    rw [cy] at h
    exact h
  · have hsz : (joinT (curF y)).size ≤ 100000 := by
      have h := lens_le9 ((curF y).map (·.data.toList)) (fun u hu => by
        obtain ⟨v, hv, rfl⟩ := List.mem_map.1 hu
        exact curF_len _ v hv)
      rw [List.length_map, show (curF y).length = 10 from rfl] at h
      show (Lib.join _ [59]).toArray.size ≤ 100000
      rw [List.size_toArray]
      omega
    obtain ⟨Q, ok, _, hq, hc, _⟩ := scBoth_any hof (by omega) (by omega) mo (joinT (curF y)) hsz
    have hfl := fld_join (curF y) (by unfold curF; simp) (cur_no y hy1)
    have hqq := hq _ _ _ _ _ _ _ _ _ _ hfl
    rw [co, told_back y o hy1 hy2 ho1 ho2 hyg.1 hyg.2 hoH.1 hoH.2 hops hyl] at hqq
    injection hqq with e1 e2
    have h := hc w t f b
    rw [e1, e2] at h
    exact h
  · have hsz : (joinT ((nbrP y).map itT)).size ≤ maxLen := by
      have h := lens_le9 (((nbrP y).map itT).map (·.data.toList)) (fun u hu => by
        obtain ⟨v, hv, rfl⟩ := List.mem_map.1 hu
        obtain ⟨n, _, rfl⟩ := List.mem_map.1 hv
        exact Nat.le_trans (itT_len n) (by omega))
      rw [List.length_map, List.length_map, show (nbrP y).length = 12 from rfl] at h
      show (Lib.join _ [59]).toArray.size ≤ maxLen
      rw [List.size_toArray]
      unfold maxLen
      omega
    have h := restore_any hof (by omega) (by omega) mo (joinT ((nbrP y).map itT)) hsz w t f
    obtain ⟨q1, q2⟩ := rep_back y o hy1 ho1 hoH.1 hoH.2 hops
    rw [co, q1, if_pos rfl, if_pos rfl, q2] at h
    exact h
end Go.Proofs.YtfnamfkjbkhgeaaGreatDoor

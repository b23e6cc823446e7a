/-
  Cores: what is fixed.
-/
import Derived.Test.YtfnamfkjbkhgeaaGreatDoorStaH
namespace Go.Proofs.YtfnamfkjbkhgeaaGreatDoor

open Go Go.RowKit

theorem wpList_load_rowG {P : Program} {ops : Array Oper} {rest : List Oper} {o : Oper} {a : Act} {w : World} {Q : Exit → Act → World → Prop} (hw : Region.wanted o (yielded ops a.tmps) = true) (ty : TypeId) (x : Operand) (ho : o.op = .load ty x)
    (g : Nat) (hx : a.eval x = .pointer (some ⟨g, 0, none⟩)) (t : TypeId) (cs : Array Value) (fr : Nat × Nat) (d : TypeDesc) (hg : w.heap[g]? = some (.cells cs t fr))
    (hu : P.underlying ty = some d) (hd : (match d with | .struct _ | .array _ _ => true | _ => false) = true) (hi : (P.info? ty).map (·.size) = some cs.size)
    (h : wpList P ops Q rest (a.put o.dst (.agg cs)) w) : wpList P ops Q (o :: rest) a w := by
  unfold wpList
  rw [if_pos hw]
  exact .inl (wp_load_row ty x ho g hx t cs fr d hg hu hd hi h)
def stF : Fr := ⟨0, 0, 24, 80, 0, 0, 24, 80⟩
theorem stF_ok : FrOk stF 24 80 0 0 24 80 := ⟨by decide, by decide, by omega, by omega, ⟨0, 0, 24, 80, by decide, .inr ⟨by decide, rfl, rfl, rfl, rfl⟩⟩, by omega, by omega⟩
theorem dg1 (n : Nat) (h : n < 10) : Lib.decDigits n = [UInt8.ofNat (48 + n)] := by rw [Lib.decDigits, dif_pos h]
theorem dg2 (n : Nat) (h : ¬ n < 10) : Lib.decDigits n = Lib.decDigits (n / 10) ++ [UInt8.ofNat (48 + n % 10)] := by rw [Lib.decDigits, dif_neg h]
theorem g0 : digs 0 = [48] := dg1 0 (by omega)
theorem g1 : digs 1 = [49] := dg1 1 (by omega)
theorem g2 : digs 2 = [50] := dg1 2 (by omega)
theorem g5 : digs 5 = [53] := dg1 5 (by omega)
theorem g24 : digs 24 = [50, 52] := by show Lib.decDigits 24 = _; rw [dg2 24 (by omega), dg1 (24 / 10) (by omega)]; rfl
theorem g80 : digs 80 = [56, 48] := by show Lib.decDigits 80 = _; rw [dg2 80 (by omega), dg1 (80 / 10) (by omega)]; rfl
theorem g2948 : digs 2948 = [50, 57, 52, 56] := by show Lib.decDigits 2948 = _; rw [dg2 2948 (by omega), dg2 (2948 / 10) (by omega), dg2 (2948 / 10 / 10) (by omega), dg1 (2948 / 10 / 10 / 10) (by omega)]; rfl
theorem it_data (n : Int) : (itT n).data.toList = digs n := by unfold itT bytesOf; simp
def stY : Co := clnP (newP 24 80 3) 24 80 0 0 24 80
theorem iso_idt : idtP (isoY stY) 4 = ⟨#[66, 66, 37, 53, 37, 53]⟩ := by kernel_rfl
theorem iso_siz : sizP (isoY stY) 4 = 64 := by kernel_rfl
theorem iso_lr : leftP (isoY stY) = 0 ∧ rightP (isoY stY) = 2 := ⟨by kernel_rfl, by kernel_rfl⟩
theorem st_nums : nbrP stY = [5, 0, 0, 2948, 0, 0, 0, 0, 0, 24, 80, 0] := by kernel_rfl
theorem st_cur : curF stY = [itT 1, itT 1, itT 1, sgnB 0, sgnB 0, sgnB 0, itT 0, itT 2, szT 64, ⟨#[66, 66, 37, 53, 37, 53]⟩] := by
  unfold curF
  rw [iso_idt, iso_siz, iso_lr.1, iso_lr.2, show stY.r = 0 from by kernel_rfl, show stY.c = 0 from by kernel_rfl, show stY.pg = 0 from by kernel_rfl, show stY.K.rd = 0 from by kernel_rfl, show stY.K.kp = false from rfl, show stY.K.og = false from rfl, show stY.wp = false from rfl, show stY.K.s = 0 from by kernel_rfl]
  rfl
theorem aw_1 : (joinT (curF stY)).toList = [49, 59, 49, 59, 49, 59, 64, 59, 64, 59, 64, 59, 48, 59, 50, 59, 64, 59, 66, 66, 37, 53, 37, 53] := by
  rw [ByteArray.toList_eq, st_cur]
  unfold joinT
  simp only [List.map_cons, List.map_nil, it_data, g0, g1, g2]
  rfl
theorem aw_2 : (joinT ((nbrP stY).map itT)).toList = [53, 59, 48, 59, 48, 59, 50, 57, 52, 56, 59, 48, 59, 48, 59, 48, 59, 48, 59, 48, 59, 50, 52, 59, 56, 48, 59, 48] := by
  rw [ByteArray.toList_eq, st_nums]
  unfold joinT
  simp only [List.map_cons, List.map_nil, it_data, g0, g5, g24, g80, g2948]
  rfl
theorem aw_3 : (bytesOf (fmtL [1, 24]) ++ (⟨#[114]⟩ : ByteArray)).toList = [49, 59, 50, 52, 114] := by
  rw [ByteArray.toList_eq]
  unfold fmtL bytesOf
  simp only [List.take, List.map_cons, List.map_nil, g1, g24]
  rfl
theorem aw_stg : stgV stY ⟨#[114]⟩ = .tuple #[.string (bytesOf (fmtL [1, 24]) ++ ⟨#[114]⟩), .bool true] := by
  unfold stgV
  rw [show stgL stY [114] = some [1, 24] from by kernel_rfl]
set_option maxRecDepth 100000 in
set_option maxHeartbeats 8000000 in
theorem awakeS_any (w : World) (ht : Tab w) (hfc : Faces w) (htn : Ten w) (hmd : Mods w) : Calls Tryz.prog 6 #[] w fun e w' => e = .returned (.bool true) ∧ Below w.heap.size w w' := by
  have HNw := Lib.hid (fun V t => coNew_any 24 80 3 V t)
  have HSe := Lib.hid (fun V t f n => setting_any (x := newP 24 80 3) stF_ok (by decide) (by decide) (by decide) ⟨#[114]⟩ V t f n)
  have HCu := Lib.hid (fun V t f n => cursor_any (x := newP 24 80 3) stF_ok (by decide) (by decide) (by decide) V t f n)
  have HRe := Lib.hid (fun V t f n => rep_any (x := newP 24 80 3) stF_ok (by decide) (by decide) (by decide) V t f n)
  rw [show clnP (newP 24 80 3) 24 80 0 0 24 80 = stY from rfl] at HSe HCu HRe
  rw [aw_stg] at HSe
  have hs1 : ((joinT (curF stY)).toList == [49, 59, 49, 59, 49, 59, 64, 59, 64, 59, 64, 59, 48, 59, 50, 59, 64, 59, 66, 66, 37, 53, 37, 53]) = true := by rw [aw_1]; rfl
  have hs2 : ((joinT ((nbrP stY).map itT)).toList == [53, 59, 48, 59, 48, 59, 50, 57, 52, 56, 59, 48, 59, 48, 59, 48, 59, 48, 59, 48, 59, 50, 52, 59, 56, 48, 59, 48]) = true := by rw [aw_2]; rfl
  have hs3 : ((bytesOf (fmtL [1, 24]) ++ (⟨#[114]⟩ : ByteArray)).toList == [49, 59, 50, 52, 114]) = true := by rw [aw_3]; rfl
  have hT := Lib.hid ht; have hF := Lib.hid hfc; have hN := Lib.hid htn; have hM := Lib.hid hmd
  clear ht hfc htn hmd
  generalize joinT (curF stY) = t1 at *
  generalize joinT ((nbrP stY).map itT) = t2 at *
  generalize bytesOf (fmtL [1, 24]) ++ (⟨#[114]⟩ : ByteArray) = t3 at *
  have hS1 := coS .u32 (newP 24 80 3)
  have hO1 := co_one .u32 (newP 24 80 3)
  unfold coV at *
  generalize coC .u32 (newP 24 80 3) = X at *
  go_enter Tryz.func6, Tryz.ntmps6
  go_wp2_with fail
  refine (HNw.out _ hM.out).mono ?_
  rintro e w1 ⟨rfl, hb⟩
  have HK1 := Lib.hid hb
  clear hb
  --#1
  go_upto_region 2 with (refine wpList_store_row rfl _ _ _ rfl w1.heap.size X rfl rfl _ _ (Blk.new w1 _ _) (by rw [hS1]; exact info_co) (by rw [hS1]; rfl) hO1 ?_)
  have HK2 : Hid (Bs w [(w1.heap.size, 45, X)] (w1.alloc (.cells X 45))) := Lib.hid ((show Bs w [] w1 from ⟨fun x hx => (by cases hx), List.Pairwise.nil, HK1.out⟩).alloc 45 X)
  refine world_gen (fun V => Bs w [(w1.heap.size, 45, X)] V) (by rw [World.setRow_alloc_new]; exact HK2.out) ?_
  intro V0 HV
  generalize w1.heap.size = b1 at *
  replace HV := Lib.hid HV
  clear HK1 HK2 HNw hM hO1
  go_wp2_with (first | (refine wpList_load_row rfl _ _ rfl b1 rfl _ X (0, 0) _ HV.out.b0 under_co rfl (by rw [hS1]; exact info_co) ?_))
  refine (HSe.out _ (hT.out.next HV.out.bel) (hF.out.next HV.out.bel) (hN.out.next HV.out.bel)).mono ?_
  rintro e w2 ⟨rfl, hb⟩
  have HK2 := Lib.hid (HV.out.next hb)
  clear hb HV HSe
  --#2
  go_wp2_with (first | (refine wpList_load_row rfl _ _ rfl b1 rfl _ X (0, 0) _ HK2.out.b0 under_co rfl (by rw [hS1]; exact info_co) ?_))
  refine (HCu.out _ (hT.out.next HK2.out.bel) (hF.out.next HK2.out.bel) (hN.out.next HK2.out.bel)).mono ?_
  rintro e w3 ⟨rfl, hb⟩
  have HK3 := Lib.hid (HK2.out.next hb)
  clear hb HK2 HCu
  --#3
  go_wp2_with (first | (refine wpList_load_rowG rfl _ _ rfl b1 rfl _ X (0, 0) _ HK3.out.b0 under_co rfl (by rw [hS1]; exact info_co) ?_))
  refine (HRe.out _ (hT.out.next HK3.out.bel) (hF.out.next HK3.out.bel) (hN.out.next HK3.out.bel)).mono ?_
  rintro e w4 ⟨rfl, hb⟩
  have HK4 := Lib.hid (HK3.out.next hb)
  clear hb HK3 HRe
  --#4
  go_wp2_with fail
  go_ret
  exact ⟨rfl, HK4.out.bel⟩
end Go.Proofs.YtfnamfkjbkhgeaaGreatDoor

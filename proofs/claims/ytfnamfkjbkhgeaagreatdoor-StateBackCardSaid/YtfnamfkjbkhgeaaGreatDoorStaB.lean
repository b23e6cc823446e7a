/-
  What a core counts as: the program's Clean.
-/
import Derived.Test.YtfnamfkjbkhgeaaGreatDoorStaA
import Derived.Test.YtfnamfkjbkhgeaaGreatDoorIsoD
import Derived.Test.YtfnamfkjbkhgeaaGreatDoorModC
import Derived.Test.YtfnamfkjbkhgeaaGreatDoorRendG
import Derived.Test.YtfnamfkjbkhgeaaGreatDoorRendB
import Derived.Test.YtfnamfkjbkhgeaaGreatDoorClip
namespace Go.Proofs.YtfnamfkjbkhgeaaGreatDoor

open Go Go.RowKit

def glP (l : Int) : Int := if isoInB 0 l = true then l else 0
def grP (r : Int) : Int := if isoInB 0 r = true then r else 2
def sgP (s : Int) : Int := if s = 2 ∨ s = 3 then s else 0
def clnP (x : Co) (H W it il ib ir : Int) : Co := ⟨clipP x.r 0 (H - 1), clipP x.c 0 (W - 1), x.wp, ⟨x.K.rd % 32, x.K.kp, x.K.og, x.K.a, x.K.b, x.K.c, x.K.d, glP x.K.l, grP x.K.r, sgP x.K.s⟩, ⟨0, 0, H, W, it, il, ib, ir⟩, x.m % 131072, clipP x.lv 1 5, x.eg, x.st, clipP x.su 0 2, x.bl, clipP x.pg 0 (clipP x.ps 1 16 - 1), clipP x.ps 1 16⟩
set_option maxRecDepth 100000 in
set_option maxHeartbeats 8000000 in
theorem cleanC_any {x : Co} {H W it il ib ir : Int} (h : FrOk x.f H W it il ib ir) (hr0 : 0 ≤ x.K.rd) (hr1 : x.K.rd ≤ 255) (hm : x.m < 2 ^ 32) (w : World) (ht : Tab w) (hfc : Faces w) :
    Calls Tryz.prog 24 #[coV .u32 x] w fun e w' => e = .returned (coV .u32 (clnP x H W it il ib ir)) ∧ Below w.heap.size w w' := by
  have HWh := Lib.hid (fun V => fWhole_any h V)
  have HIn := Lib.hid (fun V => fInner_any h V)
  have hH := h.hH; have hW := h.hW
  have HCl := Lib.hid (fun V => bclamp_any 0 0 H W x.r x.c (by unfold Sm; omega) (by unfold Sm; omega) (by unfold Sm; omega) (by unfold Sm; omega) V)
  rw [show clampT 0 0 H W x.r x.c = (clipP x.r 0 (H - 1), clipP x.c 0 (W - 1)) from if_neg (by unfold bEm emB; simp; omega)] at HCl
  have HPa := Lib.hid (fun V t => params_any x.K.rd hr0 hr1 V t)
  have HAp : Hid (∀ A c V, Tab V → RInts V A (parK x.K.rd 5) → Calls Tryz.prog 66 #[.int .u8 0, .slice A (parK x.K.rd 5).length c] V fun e w' => e = .returned (.int .u8 (x.K.rd % 32)) ∧ Below V.heap.size V w') := Lib.hid (fun A c V t hr => by
    have := apply_any 0 (by omega) (by omega) A c (parK x.K.rd 5) (by have := parK_len x.K.rd 5; unfold maxLen; omega) V t hr
    rwa [apply_par hr0 hr1] at this)
  have HRp := Lib.hid (fun V t => report_any ⟨x.K.a, x.K.b, x.K.c, x.K.d, x.K.l, x.K.r, x.K.s⟩ V t)
  unfold rptV Iso.val Iso.cs at HRp
  have e1 : leftP ⟨x.K.a, x.K.b, x.K.c, x.K.d, x.K.l, x.K.r, x.K.s⟩ = glP x.K.l := rfl
  have e2 : rightP ⟨x.K.a, x.K.b, x.K.c, x.K.d, x.K.l, x.K.r, x.K.s⟩ = grP x.K.r := rfl
  rw [e1, e2] at HRp
  clear e1 e2
  generalize sizP ⟨x.K.a, x.K.b, x.K.c, x.K.d, x.K.l, x.K.r, x.K.s⟩ 4 = sz at *
  generalize idtP ⟨x.K.a, x.K.b, x.K.c, x.K.d, x.K.l, x.K.r, x.K.s⟩ 4 = idt at *
  have HCm := Lib.hid (fun V => modClear_any x.m hm V)
  have HC1 := Lib.hid (fun V => clip_any x.lv 1 5 V)
  have HC2 := Lib.hid (fun V => clip_any x.su 0 2 V)
  have HC3 := Lib.hid (fun V => clip_any x.ps 1 16 V)
  have HC4 := Lib.hid (fun V => clip_any x.pg 0 (clipP x.ps 1 16 - 1) V)
  have q1 : 1 ≤ clipP x.ps 1 16 := by unfold clipP; omega
  have q2 : clipP x.ps 1 16 ≤ 16 := by unfold clipP; omega
  have HT := Lib.hid ht; have HFc := Lib.hid hfc
  have hs : (x.K.s = 2 ∧ sgP x.K.s = 2) ∨ (x.K.s = 3 ∧ sgP x.K.s = 3) ∨ (x.K.s ≠ 2 ∧ x.K.s ≠ 3 ∧ sgP x.K.s = 0) := by unfold sgP; by_cases h2 : x.K.s = 2 <;> by_cases h3 : x.K.s = 3 <;> simp [h2, h3]
  unfold coV clnP
  clear h hH hW hr0 hr1 hm ht hfc
  obtain ⟨r, c, wp, ⟨rd, kp, og, a, b, cc, d, l, rr, s⟩, ⟨pt, pl, pb, pr, mt, ml, mb, mr⟩, m, lv, eg, st, su, bl, pg, ps⟩ := x
  simp only [coC] at *
  unfold fV bV pV at *
  generalize clipP r 0 (H - 1) = r' at *
  generalize clipP c 0 (W - 1) = c' at *
  generalize rd % 32 = rd' at *
  generalize glP l = l' at *
  generalize grP rr = rr' at *
  generalize m % 131072 = m' at *
  generalize clipP lv 1 5 = lv' at *
  generalize clipP su 0 2 = su' at *
  generalize clipP ps 1 16 = ps' at *
  generalize clipP pg 0 (ps' - 1) = pg' at *
  generalize sgP s = s' at *
  generalize parK rd 5 = pk at *
  replace hs := Lib.hid hs
  have HS := Lib.hid (Bs.start2' w 45 45 #[.int .i64 r, .int .i64 c, .int .u8 rd, .bool kp, .bool wp, .bool og, .int .i64 a, .int .i64 b, .int .i64 cc, .int .i64 d, .int .i64 l, .int .i64 rr, .int .i64 s, .int .i64 pt, .int .i64 pl, .int .i64 pb, .int .i64 pr, .int .i64 mt, .int .i64 ml, .int .i64 mb, .int .i64 mr, .int .u32 m, .int .i64 lv, .bool eg, .bool st, .int .i64 su, .bool bl, .int .i64 pg, .int .i64 ps] (zO .u32))
  go_enter Tryz.func24, Tryz.ntmps24
  go_wp2_with fail
  refine world_gen (fun W => Bs w [(w.heap.size, 45, #[.int .i64 r, .int .i64 c, .int .u8 rd, .bool kp, .bool wp, .bool og, .int .i64 a, .int .i64 b, .int .i64 cc, .int .i64 d, .int .i64 l, .int .i64 rr, .int .i64 s, .int .i64 pt, .int .i64 pl, .int .i64 pb, .int .i64 pr, .int .i64 mt, .int .i64 ml, .int .i64 mb, .int .i64 mr, .int .u32 m, .int .i64 lv, .bool eg, .bool st, .int .i64 su, .bool bl, .int .i64 pg, .int .i64 ps]), (w.heap.size + 1, 45, zO .u32)] W) HS.out ?_
  intro W0 HW
  replace HW := Lib.hid HW
  clear HS
  --#1
  refine wp_region_mix_lit (by kernel_rfl) [(2, .call (.agg #[.int .i64 0, .int .i64 0, .int .i64 H, .int .i64 W])), (5, .call (.agg #[.int .i64 it, .int .i64 il, .int .i64 ib, .int .i64 ir])), (8, .store w.heap.size 45 #[.int .i64 r, .int .i64 c, .int .u8 rd, .bool kp, .bool wp, .bool og, .int .i64 a, .int .i64 b, .int .i64 cc, .int .i64 d, .int .i64 l, .int .i64 rr, .int .i64 s, .int .i64 pt, .int .i64 pl, .int .i64 pb, .int .i64 pr, .int .i64 mt, .int .i64 ml, .int .i64 mb, .int .i64 mr, .int .u32 m, .int .i64 lv, .bool eg, .bool st, .int .i64 su, .bool bl, .int .i64 pg, .int .i64 ps] (fun _ => #[.int .i64 r, .int .i64 c, .int .u8 rd, .bool kp, .bool wp, .bool og, .int .i64 a, .int .i64 b, .int .i64 cc, .int .i64 d, .int .i64 l, .int .i64 rr, .int .i64 s, .int .i64 0, .int .i64 0, .int .i64 H, .int .i64 W, .int .i64 it, .int .i64 il, .int .i64 ib, .int .i64 ir, .int .u32 m, .int .i64 lv, .bool eg, .bool st, .int .i64 su, .bool bl, .int .i64 pg, .int .i64 ps]))] (by kernel_rfl) (by kernel_rfl) (by kernel_rfl) (by rfl) (by simp [apartK] <;> omega) (by simp [startK]; exact HW.out.b0) (by simp [stabK]) (⟨fun _ => undef, by simp [okK]⟩) (fun β hβ => ?_)
  repeat (
    refine lex_val (v := ?_) rfl rfl (fun w' hf => ?_) ?_
    rotate_left
    · have hb0 := hf.old 8 _ _ _ _ rfl (by kernel_rfl); have c13 : w'.cell? ⟨w.heap.size, 13, none⟩ = some (.int .i64 pt) := Blk.cell hb0 13; have c14 : w'.cell? ⟨w.heap.size, 14, none⟩ = some (.int .i64 pl) := Blk.cell hb0 14; have c15 : w'.cell? ⟨w.heap.size, 15, none⟩ = some (.int .i64 pb) := Blk.cell hb0 15; have c16 : w'.cell? ⟨w.heap.size, 16, none⟩ = some (.int .i64 pr) := Blk.cell hb0 16; have c17 : w'.cell? ⟨w.heap.size, 17, none⟩ = some (.int .i64 mt) := Blk.cell hb0 17; have c18 : w'.cell? ⟨w.heap.size, 18, none⟩ = some (.int .i64 ml) := Blk.cell hb0 18; have c19 : w'.cell? ⟨w.heap.size, 19, none⟩ = some (.int .i64 mb) := Blk.cell hb0 19; have c20 : w'.cell? ⟨w.heap.size, 20, none⟩ = some (.int .i64 mr) := Blk.cell hb0 20; go_simp
      try rfl
    try simp only [Act.put, List.setIfInBounds_toArray, List.set_cons_zero, List.set_cons_succ])
  refine lex_call (f := 63) (args := ?_) rfl rfl (fun w' hf => ?_) (fun w' hf => ?_) ?_
  rotate_left
  · go_simp
    try rfl
  · exact HWh.out w'
  try simp only [Act.put, List.setIfInBounds_toArray, List.set_cons_zero, List.set_cons_succ]
  repeat (
    refine lex_val (v := ?_) rfl rfl (fun w' hf => ?_) ?_
    rotate_left
    · have hb0 := hf.old 8 _ _ _ _ rfl (by kernel_rfl); have c13 : w'.cell? ⟨w.heap.size, 13, none⟩ = some (.int .i64 pt) := Blk.cell hb0 13; have c14 : w'.cell? ⟨w.heap.size, 14, none⟩ = some (.int .i64 pl) := Blk.cell hb0 14; have c15 : w'.cell? ⟨w.heap.size, 15, none⟩ = some (.int .i64 pb) := Blk.cell hb0 15; have c16 : w'.cell? ⟨w.heap.size, 16, none⟩ = some (.int .i64 pr) := Blk.cell hb0 16; have c17 : w'.cell? ⟨w.heap.size, 17, none⟩ = some (.int .i64 mt) := Blk.cell hb0 17; have c18 : w'.cell? ⟨w.heap.size, 18, none⟩ = some (.int .i64 ml) := Blk.cell hb0 18; have c19 : w'.cell? ⟨w.heap.size, 19, none⟩ = some (.int .i64 mb) := Blk.cell hb0 19; have c20 : w'.cell? ⟨w.heap.size, 20, none⟩ = some (.int .i64 mr) := Blk.cell hb0 20; go_simp
      try rfl
    try simp only [Act.put, List.setIfInBounds_toArray, List.set_cons_zero, List.set_cons_succ])
  refine lex_call (f := 64) (args := ?_) rfl rfl (fun w' hf => ?_) (fun w' hf => ?_) ?_
  rotate_left
  · go_simp
    try rfl
  · exact HIn.out w'
  try simp only [Act.put, List.setIfInBounds_toArray, List.set_cons_zero, List.set_cons_succ]
  repeat (
    refine lex_val (v := ?_) rfl rfl (fun w' hf => ?_) ?_
    rotate_left
    · go_simp
      try rfl
    try simp only [Act.put, List.setIfInBounds_toArray, List.set_cons_zero, List.set_cons_succ])
  --#2
  have HR8 : Hid (∀ w' : World, Blk w' (w.heap.size) 45 #[.int .i64 r, .int .i64 c, .int .u8 rd, .bool kp, .bool wp, .bool og, .int .i64 a, .int .i64 b, .int .i64 cc, .int .i64 d, .int .i64 l, .int .i64 rr, .int .i64 s, .int .i64 pt, .int .i64 pl, .int .i64 pb, .int .i64 pr, .int .i64 mt, .int .i64 ml, .int .i64 mb, .int .i64 mr, .int .u32 m, .int .i64 lv, .bool eg, .bool st, .int .i64 su, .bool bl, .int .i64 pg, .int .i64 ps] → Repl w' (((((((((w').setCell ⟨w.heap.size, 13, none⟩ (.int .i64 0)).setCell ⟨w.heap.size, 14, none⟩ (.int .i64 0)).setCell ⟨w.heap.size, 15, none⟩ (.int .i64 H)).setCell ⟨w.heap.size, 16, none⟩ (.int .i64 W)).setCell ⟨w.heap.size, 17, none⟩ (.int .i64 it)).setCell ⟨w.heap.size, 18, none⟩ (.int .i64 il)).setCell ⟨w.heap.size, 19, none⟩ (.int .i64 ib)).setCell ⟨w.heap.size, 20, none⟩ (.int .i64 ir)) (w.heap.size) 45 #[.int .i64 r, .int .i64 c, .int .u8 rd, .bool kp, .bool wp, .bool og, .int .i64 a, .int .i64 b, .int .i64 cc, .int .i64 d, .int .i64 l, .int .i64 rr, .int .i64 s, .int .i64 0, .int .i64 0, .int .i64 H, .int .i64 W, .int .i64 it, .int .i64 il, .int .i64 ib, .int .i64 ir, .int .u32 m, .int .i64 lv, .bool eg, .bool st, .int .i64 su, .bool bl, .int .i64 pg, .int .i64 ps]) := Lib.hid (fun w' hB => by
    have r13 : Repl (w') ((w').setCell ⟨w.heap.size, 13, none⟩ (.int .i64 0)) (w.heap.size) 45 #[.int .i64 r, .int .i64 c, .int .u8 rd, .bool kp, .bool wp, .bool og, .int .i64 a, .int .i64 b, .int .i64 cc, .int .i64 d, .int .i64 l, .int .i64 rr, .int .i64 s, .int .i64 0, .int .i64 pl, .int .i64 pb, .int .i64 pr, .int .i64 mt, .int .i64 ml, .int .i64 mb, .int .i64 mr, .int .u32 m, .int .i64 lv, .bool eg, .bool st, .int .i64 su, .bool bl, .int .i64 pg, .int .i64 ps] := Repl.set hB 13 (.int .i64 0)
    have r14 : Repl ((w').setCell ⟨w.heap.size, 13, none⟩ (.int .i64 0)) (((w').setCell ⟨w.heap.size, 13, none⟩ (.int .i64 0)).setCell ⟨w.heap.size, 14, none⟩ (.int .i64 0)) (w.heap.size) 45 #[.int .i64 r, .int .i64 c, .int .u8 rd, .bool kp, .bool wp, .bool og, .int .i64 a, .int .i64 b, .int .i64 cc, .int .i64 d, .int .i64 l, .int .i64 rr, .int .i64 s, .int .i64 0, .int .i64 0, .int .i64 pb, .int .i64 pr, .int .i64 mt, .int .i64 ml, .int .i64 mb, .int .i64 mr, .int .u32 m, .int .i64 lv, .bool eg, .bool st, .int .i64 su, .bool bl, .int .i64 pg, .int .i64 ps] := Repl.set r13.here 14 (.int .i64 0)
    have r15 : Repl (((w').setCell ⟨w.heap.size, 13, none⟩ (.int .i64 0)).setCell ⟨w.heap.size, 14, none⟩ (.int .i64 0)) ((((w').setCell ⟨w.heap.size, 13, none⟩ (.int .i64 0)).setCell ⟨w.heap.size, 14, none⟩ (.int .i64 0)).setCell ⟨w.heap.size, 15, none⟩ (.int .i64 H)) (w.heap.size) 45 #[.int .i64 r, .int .i64 c, .int .u8 rd, .bool kp, .bool wp, .bool og, .int .i64 a, .int .i64 b, .int .i64 cc, .int .i64 d, .int .i64 l, .int .i64 rr, .int .i64 s, .int .i64 0, .int .i64 0, .int .i64 H, .int .i64 pr, .int .i64 mt, .int .i64 ml, .int .i64 mb, .int .i64 mr, .int .u32 m, .int .i64 lv, .bool eg, .bool st, .int .i64 su, .bool bl, .int .i64 pg, .int .i64 ps] := Repl.set r14.here 15 (.int .i64 H)
    have r16 : Repl ((((w').setCell ⟨w.heap.size, 13, none⟩ (.int .i64 0)).setCell ⟨w.heap.size, 14, none⟩ (.int .i64 0)).setCell ⟨w.heap.size, 15, none⟩ (.int .i64 H)) (((((w').setCell ⟨w.heap.size, 13, none⟩ (.int .i64 0)).setCell ⟨w.heap.size, 14, none⟩ (.int .i64 0)).setCell ⟨w.heap.size, 15, none⟩ (.int .i64 H)).setCell ⟨w.heap.size, 16, none⟩ (.int .i64 W)) (w.heap.size) 45 #[.int .i64 r, .int .i64 c, .int .u8 rd, .bool kp, .bool wp, .bool og, .int .i64 a, .int .i64 b, .int .i64 cc, .int .i64 d, .int .i64 l, .int .i64 rr, .int .i64 s, .int .i64 0, .int .i64 0, .int .i64 H, .int .i64 W, .int .i64 mt, .int .i64 ml, .int .i64 mb, .int .i64 mr, .int .u32 m, .int .i64 lv, .bool eg, .bool st, .int .i64 su, .bool bl, .int .i64 pg, .int .i64 ps] := Repl.set r15.here 16 (.int .i64 W)
    have r17 : Repl (((((w').setCell ⟨w.heap.size, 13, none⟩ (.int .i64 0)).setCell ⟨w.heap.size, 14, none⟩ (.int .i64 0)).setCell ⟨w.heap.size, 15, none⟩ (.int .i64 H)).setCell ⟨w.heap.size, 16, none⟩ (.int .i64 W)) ((((((w').setCell ⟨w.heap.size, 13, none⟩ (.int .i64 0)).setCell ⟨w.heap.size, 14, none⟩ (.int .i64 0)).setCell ⟨w.heap.size, 15, none⟩ (.int .i64 H)).setCell ⟨w.heap.size, 16, none⟩ (.int .i64 W)).setCell ⟨w.heap.size, 17, none⟩ (.int .i64 it)) (w.heap.size) 45 #[.int .i64 r, .int .i64 c, .int .u8 rd, .bool kp, .bool wp, .bool og, .int .i64 a, .int .i64 b, .int .i64 cc, .int .i64 d, .int .i64 l, .int .i64 rr, .int .i64 s, .int .i64 0, .int .i64 0, .int .i64 H, .int .i64 W, .int .i64 it, .int .i64 ml, .int .i64 mb, .int .i64 mr, .int .u32 m, .int .i64 lv, .bool eg, .bool st, .int .i64 su, .bool bl, .int .i64 pg, .int .i64 ps] := Repl.set r16.here 17 (.int .i64 it)
    have r18 : Repl ((((((w').setCell ⟨w.heap.size, 13, none⟩ (.int .i64 0)).setCell ⟨w.heap.size, 14, none⟩ (.int .i64 0)).setCell ⟨w.heap.size, 15, none⟩ (.int .i64 H)).setCell ⟨w.heap.size, 16, none⟩ (.int .i64 W)).setCell ⟨w.heap.size, 17, none⟩ (.int .i64 it)) (((((((w').setCell ⟨w.heap.size, 13, none⟩ (.int .i64 0)).setCell ⟨w.heap.size, 14, none⟩ (.int .i64 0)).setCell ⟨w.heap.size, 15, none⟩ (.int .i64 H)).setCell ⟨w.heap.size, 16, none⟩ (.int .i64 W)).setCell ⟨w.heap.size, 17, none⟩ (.int .i64 it)).setCell ⟨w.heap.size, 18, none⟩ (.int .i64 il)) (w.heap.size) 45 #[.int .i64 r, .int .i64 c, .int .u8 rd, .bool kp, .bool wp, .bool og, .int .i64 a, .int .i64 b, .int .i64 cc, .int .i64 d, .int .i64 l, .int .i64 rr, .int .i64 s, .int .i64 0, .int .i64 0, .int .i64 H, .int .i64 W, .int .i64 it, .int .i64 il, .int .i64 mb, .int .i64 mr, .int .u32 m, .int .i64 lv, .bool eg, .bool st, .int .i64 su, .bool bl, .int .i64 pg, .int .i64 ps] := Repl.set r17.here 18 (.int .i64 il)
    have r19 : Repl (((((((w').setCell ⟨w.heap.size, 13, none⟩ (.int .i64 0)).setCell ⟨w.heap.size, 14, none⟩ (.int .i64 0)).setCell ⟨w.heap.size, 15, none⟩ (.int .i64 H)).setCell ⟨w.heap.size, 16, none⟩ (.int .i64 W)).setCell ⟨w.heap.size, 17, none⟩ (.int .i64 it)).setCell ⟨w.heap.size, 18, none⟩ (.int .i64 il)) ((((((((w').setCell ⟨w.heap.size, 13, none⟩ (.int .i64 0)).setCell ⟨w.heap.size, 14, none⟩ (.int .i64 0)).setCell ⟨w.heap.size, 15, none⟩ (.int .i64 H)).setCell ⟨w.heap.size, 16, none⟩ (.int .i64 W)).setCell ⟨w.heap.size, 17, none⟩ (.int .i64 it)).setCell ⟨w.heap.size, 18, none⟩ (.int .i64 il)).setCell ⟨w.heap.size, 19, none⟩ (.int .i64 ib)) (w.heap.size) 45 #[.int .i64 r, .int .i64 c, .int .u8 rd, .bool kp, .bool wp, .bool og, .int .i64 a, .int .i64 b, .int .i64 cc, .int .i64 d, .int .i64 l, .int .i64 rr, .int .i64 s, .int .i64 0, .int .i64 0, .int .i64 H, .int .i64 W, .int .i64 it, .int .i64 il, .int .i64 ib, .int .i64 mr, .int .u32 m, .int .i64 lv, .bool eg, .bool st, .int .i64 su, .bool bl, .int .i64 pg, .int .i64 ps] := Repl.set r18.here 19 (.int .i64 ib)
    have r20 : Repl ((((((((w').setCell ⟨w.heap.size, 13, none⟩ (.int .i64 0)).setCell ⟨w.heap.size, 14, none⟩ (.int .i64 0)).setCell ⟨w.heap.size, 15, none⟩ (.int .i64 H)).setCell ⟨w.heap.size, 16, none⟩ (.int .i64 W)).setCell ⟨w.heap.size, 17, none⟩ (.int .i64 it)).setCell ⟨w.heap.size, 18, none⟩ (.int .i64 il)).setCell ⟨w.heap.size, 19, none⟩ (.int .i64 ib)) (((((((((w').setCell ⟨w.heap.size, 13, none⟩ (.int .i64 0)).setCell ⟨w.heap.size, 14, none⟩ (.int .i64 0)).setCell ⟨w.heap.size, 15, none⟩ (.int .i64 H)).setCell ⟨w.heap.size, 16, none⟩ (.int .i64 W)).setCell ⟨w.heap.size, 17, none⟩ (.int .i64 it)).setCell ⟨w.heap.size, 18, none⟩ (.int .i64 il)).setCell ⟨w.heap.size, 19, none⟩ (.int .i64 ib)).setCell ⟨w.heap.size, 20, none⟩ (.int .i64 ir)) (w.heap.size) 45 #[.int .i64 r, .int .i64 c, .int .u8 rd, .bool kp, .bool wp, .bool og, .int .i64 a, .int .i64 b, .int .i64 cc, .int .i64 d, .int .i64 l, .int .i64 rr, .int .i64 s, .int .i64 0, .int .i64 0, .int .i64 H, .int .i64 W, .int .i64 it, .int .i64 il, .int .i64 ib, .int .i64 ir, .int .u32 m, .int .i64 lv, .bool eg, .bool st, .int .i64 su, .bool bl, .int .i64 pg, .int .i64 ps] := Repl.set r19.here 20 (.int .i64 ir)
    exact r13.trans (r14.trans (r15.trans (r16.trans (r17.trans (r18.trans (r19.trans r20)))))))
  --#3
  refine lex_store rfl rfl (fun w' hf hB => ⟨_, ?_, HR8.out w' hB⟩) ?_
  · skip
    have c13 : w'.cell? ⟨w.heap.size, 13, none⟩ = some (.int .i64 pt) := Blk.cell hB 13
    have z13 : w'.frozen? ⟨w.heap.size, 13, none⟩ = false := Blk.frozen hB 13
    have c14 : w'.cell? ⟨w.heap.size, 14, none⟩ = some (.int .i64 pl) := Blk.cell hB 14
    have z14 : w'.frozen? ⟨w.heap.size, 14, none⟩ = false := Blk.frozen hB 14
    have c15 : w'.cell? ⟨w.heap.size, 15, none⟩ = some (.int .i64 pb) := Blk.cell hB 15
    have z15 : w'.frozen? ⟨w.heap.size, 15, none⟩ = false := Blk.frozen hB 15
    have c16 : w'.cell? ⟨w.heap.size, 16, none⟩ = some (.int .i64 pr) := Blk.cell hB 16
    have z16 : w'.frozen? ⟨w.heap.size, 16, none⟩ = false := Blk.frozen hB 16
    have c17 : w'.cell? ⟨w.heap.size, 17, none⟩ = some (.int .i64 mt) := Blk.cell hB 17
    have z17 : w'.frozen? ⟨w.heap.size, 17, none⟩ = false := Blk.frozen hB 17
    have c18 : w'.cell? ⟨w.heap.size, 18, none⟩ = some (.int .i64 ml) := Blk.cell hB 18
    have z18 : w'.frozen? ⟨w.heap.size, 18, none⟩ = false := Blk.frozen hB 18
    have c19 : w'.cell? ⟨w.heap.size, 19, none⟩ = some (.int .i64 mb) := Blk.cell hB 19
    have z19 : w'.frozen? ⟨w.heap.size, 19, none⟩ = false := Blk.frozen hB 19
    have c20 : w'.cell? ⟨w.heap.size, 20, none⟩ = some (.int .i64 mr) := Blk.cell hB 20
    have z20 : w'.frozen? ⟨w.heap.size, 20, none⟩ = false := Blk.frozen hB 20
    clear HR8
    go_simp
  try simp only [Act.put]
  refine lex_nil fun w1 he => ?_
  --#4
  have hb9 : Blk w1 (w.heap.size) 45 #[.int .i64 r, .int .i64 c, .int .u8 rd, .bool kp, .bool wp, .bool og, .int .i64 a, .int .i64 b, .int .i64 cc, .int .i64 d, .int .i64 l, .int .i64 rr, .int .i64 s, .int .i64 0, .int .i64 0, .int .i64 H, .int .i64 W, .int .i64 it, .int .i64 il, .int .i64 ib, .int .i64 ir, .int .u32 m, .int .i64 lv, .bool eg, .bool st, .int .i64 su, .bool bl, .int .i64 pg, .int .i64 ps] := he.facts 8
  have HK1 : Hid (Bs w [(w.heap.size, 45, #[.int .i64 r, .int .i64 c, .int .u8 rd, .bool kp, .bool wp, .bool og, .int .i64 a, .int .i64 b, .int .i64 cc, .int .i64 d, .int .i64 l, .int .i64 rr, .int .i64 s, .int .i64 0, .int .i64 0, .int .i64 H, .int .i64 W, .int .i64 it, .int .i64 il, .int .i64 ib, .int .i64 ir, .int .u32 m, .int .i64 lv, .bool eg, .bool st, .int .i64 su, .bool bl, .int .i64 pg, .int .i64 ps]), ((w.heap.size + 1), 45, zO .u32)] (w1)) := Lib.hid (Bs.mix HW.out he.only hb9)
  clear he hb9 HW HR8 hβ HWh HIn
  have c0 : w1.cell? ⟨w.heap.size, 0, none⟩ = some (.int .i64 r) := Blk.cell HK1.out.b0 0
  have c1 : w1.cell? ⟨w.heap.size, 1, none⟩ = some (.int .i64 c) := Blk.cell HK1.out.b0 1
  have c13 : w1.cell? ⟨w.heap.size, 13, none⟩ = some (.int .i64 0) := Blk.cell HK1.out.b0 13
  have c14 : w1.cell? ⟨w.heap.size, 14, none⟩ = some (.int .i64 0) := Blk.cell HK1.out.b0 14
  have c15 : w1.cell? ⟨w.heap.size, 15, none⟩ = some (.int .i64 H) := Blk.cell HK1.out.b0 15
  have c16 : w1.cell? ⟨w.heap.size, 16, none⟩ = some (.int .i64 W) := Blk.cell HK1.out.b0 16
  have c17 : w1.cell? ⟨w.heap.size, 17, none⟩ = some (.int .i64 it) := Blk.cell HK1.out.b0 17
  have c18 : w1.cell? ⟨w.heap.size, 18, none⟩ = some (.int .i64 il) := Blk.cell HK1.out.b0 18
  have c19 : w1.cell? ⟨w.heap.size, 19, none⟩ = some (.int .i64 ib) := Blk.cell HK1.out.b0 19
  have c20 : w1.cell? ⟨w.heap.size, 20, none⟩ = some (.int .i64 ir) := Blk.cell HK1.out.b0 20
  --#5
  go_wp2_with fail
  refine (HCl.out _).mono ?_
  rintro e w2 ⟨rfl, hb⟩
  have HK2 : Hid (Bs w [(w.heap.size, 45, #[.int .i64 r, .int .i64 c, .int .u8 rd, .bool kp, .bool wp, .bool og, .int .i64 a, .int .i64 b, .int .i64 cc, .int .i64 d, .int .i64 l, .int .i64 rr, .int .i64 s, .int .i64 0, .int .i64 0, .int .i64 H, .int .i64 W, .int .i64 it, .int .i64 il, .int .i64 ib, .int .i64 ir, .int .u32 m, .int .i64 lv, .bool eg, .bool st, .int .i64 su, .bool bl, .int .i64 pg, .int .i64 ps]), ((w.heap.size + 1), 45, zO .u32)] (w2)) := Lib.hid (HK1.out.next hb)
  have HT2 := Lib.hid (HT.out.next HK2.out.bel); have HF2 := Lib.hid (HFc.out.next HK2.out.bel)
  clear hb HK1 c0 c1 c13 c14 c15 c16 c17 c18 c19 c20
  --#6
  have c0 : w2.cell? ⟨w.heap.size, 0, none⟩ = some (.int .i64 r) := Blk.cell HK2.out.b0 0
  have c1 : w2.cell? ⟨w.heap.size, 1, none⟩ = some (.int .i64 c) := Blk.cell HK2.out.b0 1
  have c2 : w2.cell? ⟨w.heap.size, 2, none⟩ = some (.int .u8 rd) := Blk.cell HK2.out.b0 2
  have z0 : w2.frozen? ⟨w.heap.size, 0, none⟩ = false := Blk.frozen HK2.out.b0 0
  have z1 : w2.frozen? ⟨w.heap.size, 1, none⟩ = false := Blk.frozen HK2.out.b0 1
  --#7
  go_wp2_with fail
  have HK3 : Hid (Bs w [(w.heap.size, 45, #[.int .i64 r', .int .i64 c', .int .u8 rd, .bool kp, .bool wp, .bool og, .int .i64 a, .int .i64 b, .int .i64 cc, .int .i64 d, .int .i64 l, .int .i64 rr, .int .i64 s, .int .i64 0, .int .i64 0, .int .i64 H, .int .i64 W, .int .i64 it, .int .i64 il, .int .i64 ib, .int .i64 ir, .int .u32 m, .int .i64 lv, .bool eg, .bool st, .int .i64 su, .bool bl, .int .i64 pg, .int .i64 ps]), ((w.heap.size + 1), 45, zO .u32)] ((w2.setCell ⟨w.heap.size, 0, none⟩ (.int .i64 r')).setCell ⟨w.heap.size, 1, none⟩ (.int .i64 c'))) := Lib.hid ((HK2.out.s0 0 (.int .i64 r')).s0 1 (.int .i64 c'))
  --#8
  clear HK2 HT2 HF2 c0 c1 c2 z0 z1
  refine (HPa.out _ (HT.out.next HK3.out.bel)).mono ?_
  rintro e w3 ⟨pv, rfl, hpv, hb⟩
  have HK4 : Hid (Bs w [(w.heap.size, 45, #[.int .i64 r', .int .i64 c', .int .u8 rd, .bool kp, .bool wp, .bool og, .int .i64 a, .int .i64 b, .int .i64 cc, .int .i64 d, .int .i64 l, .int .i64 rr, .int .i64 s, .int .i64 0, .int .i64 0, .int .i64 H, .int .i64 W, .int .i64 it, .int .i64 il, .int .i64 ib, .int .i64 ir, .int .u32 m, .int .i64 lv, .bool eg, .bool st, .int .i64 su, .bool bl, .int .i64 pg, .int .i64 ps]), ((w.heap.size + 1), 45, zO .u32)] (w3)) := Lib.hid (HK3.out.next hb)
  clear hb HK3
  obtain ⟨pA, pc, rfl⟩ := hpv.form
  have hpr := Lib.hid hpv.reads
  clear hpv
  go_wp2_with fail
  refine (HAp.out pA pc _ (HT.out.next HK4.out.bel) hpr.out).mono ?_
  rintro e w4 ⟨rfl, hb⟩
  have HK5 : Hid (Bs w [(w.heap.size, 45, #[.int .i64 r', .int .i64 c', .int .u8 rd, .bool kp, .bool wp, .bool og, .int .i64 a, .int .i64 b, .int .i64 cc, .int .i64 d, .int .i64 l, .int .i64 rr, .int .i64 s, .int .i64 0, .int .i64 0, .int .i64 H, .int .i64 W, .int .i64 it, .int .i64 il, .int .i64 ib, .int .i64 ir, .int .u32 m, .int .i64 lv, .bool eg, .bool st, .int .i64 su, .bool bl, .int .i64 pg, .int .i64 ps]), ((w.heap.size + 1), 45, zO .u32)] (w4)) := Lib.hid (HK4.out.next hb)
  clear hb HK4 hpr
  --#9
  have c2 : w4.cell? ⟨w.heap.size, 2, none⟩ = some (.int .u8 rd) := Blk.cell HK5.out.b0 2
  have c6 : w4.cell? ⟨w.heap.size, 6, none⟩ = some (.int .i64 a) := Blk.cell HK5.out.b0 6
  have c7 : w4.cell? ⟨w.heap.size, 7, none⟩ = some (.int .i64 b) := Blk.cell HK5.out.b0 7
  have c8 : w4.cell? ⟨w.heap.size, 8, none⟩ = some (.int .i64 cc) := Blk.cell HK5.out.b0 8
  have c9 : w4.cell? ⟨w.heap.size, 9, none⟩ = some (.int .i64 d) := Blk.cell HK5.out.b0 9
  have c10 : w4.cell? ⟨w.heap.size, 10, none⟩ = some (.int .i64 l) := Blk.cell HK5.out.b0 10
  have c11 : w4.cell? ⟨w.heap.size, 11, none⟩ = some (.int .i64 rr) := Blk.cell HK5.out.b0 11
  have c12 : w4.cell? ⟨w.heap.size, 12, none⟩ = some (.int .i64 s) := Blk.cell HK5.out.b0 12
  have z2 : w4.frozen? ⟨w.heap.size, 2, none⟩ = false := Blk.frozen HK5.out.b0 2
  go_wp2_with fail
  have HK6 : Hid (Bs w [(w.heap.size, 45, #[.int .i64 r', .int .i64 c', .int .u8 rd', .bool kp, .bool wp, .bool og, .int .i64 a, .int .i64 b, .int .i64 cc, .int .i64 d, .int .i64 l, .int .i64 rr, .int .i64 s, .int .i64 0, .int .i64 0, .int .i64 H, .int .i64 W, .int .i64 it, .int .i64 il, .int .i64 ib, .int .i64 ir, .int .u32 m, .int .i64 lv, .bool eg, .bool st, .int .i64 su, .bool bl, .int .i64 pg, .int .i64 ps]), ((w.heap.size + 1), 45, zO .u32)] (w4.setCell ⟨w.heap.size, 2, none⟩ (.int .u8 rd'))) := Lib.hid (HK5.out.s0 2 (.int .u8 rd'))
  clear HK5 c2 c6 c7 c8 c9 c10 c11 c12 z2
  refine (HRp.out _ (HFc.out.next HK6.out.bel)).mono ?_
  rintro e w5 ⟨rfl, hb⟩
  have HK7 : Hid (Bs w [(w.heap.size, 45, #[.int .i64 r', .int .i64 c', .int .u8 rd', .bool kp, .bool wp, .bool og, .int .i64 a, .int .i64 b, .int .i64 cc, .int .i64 d, .int .i64 l, .int .i64 rr, .int .i64 s, .int .i64 0, .int .i64 0, .int .i64 H, .int .i64 W, .int .i64 it, .int .i64 il, .int .i64 ib, .int .i64 ir, .int .u32 m, .int .i64 lv, .bool eg, .bool st, .int .i64 su, .bool bl, .int .i64 pg, .int .i64 ps]), ((w.heap.size + 1), 45, zO .u32)] (w5)) := Lib.hid (HK6.out.next hb)
  clear hb HK6
  --#a
  have c10 : w5.cell? ⟨w.heap.size, 10, none⟩ = some (.int .i64 l) := Blk.cell HK7.out.b0 10
  have c11 : w5.cell? ⟨w.heap.size, 11, none⟩ = some (.int .i64 rr) := Blk.cell HK7.out.b0 11
  have c12 : w5.cell? ⟨w.heap.size, 12, none⟩ = some (.int .i64 s) := Blk.cell HK7.out.b0 12
  have c21 : w5.cell? ⟨w.heap.size, 21, none⟩ = some (.int .u32 m) := Blk.cell HK7.out.b0 21
  have c22 : w5.cell? ⟨w.heap.size, 22, none⟩ = some (.int .i64 lv) := Blk.cell HK7.out.b0 22
  have c25 : w5.cell? ⟨w.heap.size, 25, none⟩ = some (.int .i64 su) := Blk.cell HK7.out.b0 25
  have c27 : w5.cell? ⟨w.heap.size, 27, none⟩ = some (.int .i64 pg) := Blk.cell HK7.out.b0 27
  have c28 : w5.cell? ⟨w.heap.size, 28, none⟩ = some (.int .i64 ps) := Blk.cell HK7.out.b0 28
  have z10 : w5.frozen? ⟨w.heap.size, 10, none⟩ = false := Blk.frozen HK7.out.b0 10
  have z11 : w5.frozen? ⟨w.heap.size, 11, none⟩ = false := Blk.frozen HK7.out.b0 11
  have z12 : w5.frozen? ⟨w.heap.size, 12, none⟩ = false := Blk.frozen HK7.out.b0 12
  have z21 : w5.frozen? ⟨w.heap.size, 21, none⟩ = false := Blk.frozen HK7.out.b0 21
  have z22 : w5.frozen? ⟨w.heap.size, 22, none⟩ = false := Blk.frozen HK7.out.b0 22
  have z25 : w5.frozen? ⟨w.heap.size, 25, none⟩ = false := Blk.frozen HK7.out.b0 25
  have z27 : w5.frozen? ⟨w.heap.size, 27, none⟩ = false := Blk.frozen HK7.out.b0 27
  have z28 : w5.frozen? ⟨w.heap.size, 28, none⟩ = false := Blk.frozen HK7.out.b0 28
  rcases hs.out with ⟨rfl, rfl⟩ | ⟨rfl, rfl⟩ | ⟨hs2, hs3, rfl⟩
  · skip
    --#x0
    go_wp2_with fail
    refine (HCm.out _).mono ?_
    rintro e _ ⟨rfl, rfl⟩
    --#x1
    go_wp2_with fail
    refine (HC1.out _).mono ?_
    rintro e _ ⟨rfl, rfl⟩
    --#x2
    go_wp2_with fail
    refine (HC2.out _).mono ?_
    rintro e _ ⟨rfl, rfl⟩
    --#x3
    go_wp2_with fail
    refine (HC3.out _).mono ?_
    rintro e _ ⟨rfl, rfl⟩
    --#x4
    go_wp2_with fail
    refine (HC4.out _).mono ?_
    rintro e _ ⟨rfl, rfl⟩
    have HS10 : Hid (Bs w [(w.heap.size, 45, #[.int .i64 r', .int .i64 c', .int .u8 rd', .bool kp, .bool wp, .bool og, .int .i64 a, .int .i64 b, .int .i64 cc, .int .i64 d, .int .i64 l', .int .i64 rr, .int .i64 2, .int .i64 0, .int .i64 0, .int .i64 H, .int .i64 W, .int .i64 it, .int .i64 il, .int .i64 ib, .int .i64 ir, .int .u32 m, .int .i64 lv, .bool eg, .bool st, .int .i64 su, .bool bl, .int .i64 pg, .int .i64 ps]), ((w.heap.size + 1), 45, zO .u32)] ((w5).setCell ⟨w.heap.size, 10, none⟩ (.int .i64 l'))) := Lib.hid (HK7.out.s0 10 (.int .i64 l'))
    have HS11 : Hid (Bs w [(w.heap.size, 45, #[.int .i64 r', .int .i64 c', .int .u8 rd', .bool kp, .bool wp, .bool og, .int .i64 a, .int .i64 b, .int .i64 cc, .int .i64 d, .int .i64 l', .int .i64 rr', .int .i64 2, .int .i64 0, .int .i64 0, .int .i64 H, .int .i64 W, .int .i64 it, .int .i64 il, .int .i64 ib, .int .i64 ir, .int .u32 m, .int .i64 lv, .bool eg, .bool st, .int .i64 su, .bool bl, .int .i64 pg, .int .i64 ps]), ((w.heap.size + 1), 45, zO .u32)] (((w5).setCell ⟨w.heap.size, 10, none⟩ (.int .i64 l')).setCell ⟨w.heap.size, 11, none⟩ (.int .i64 rr'))) := Lib.hid (HS10.out.s0 11 (.int .i64 rr'))
    have HS21 : Hid (Bs w [(w.heap.size, 45, #[.int .i64 r', .int .i64 c', .int .u8 rd', .bool kp, .bool wp, .bool og, .int .i64 a, .int .i64 b, .int .i64 cc, .int .i64 d, .int .i64 l', .int .i64 rr', .int .i64 2, .int .i64 0, .int .i64 0, .int .i64 H, .int .i64 W, .int .i64 it, .int .i64 il, .int .i64 ib, .int .i64 ir, .int .u32 m', .int .i64 lv, .bool eg, .bool st, .int .i64 su, .bool bl, .int .i64 pg, .int .i64 ps]), ((w.heap.size + 1), 45, zO .u32)] ((((w5).setCell ⟨w.heap.size, 10, none⟩ (.int .i64 l')).setCell ⟨w.heap.size, 11, none⟩ (.int .i64 rr')).setCell ⟨w.heap.size, 21, none⟩ (.int .u32 m'))) := Lib.hid (HS11.out.s0 21 (.int .u32 m'))
    have HS22 : Hid (Bs w [(w.heap.size, 45, #[.int .i64 r', .int .i64 c', .int .u8 rd', .bool kp, .bool wp, .bool og, .int .i64 a, .int .i64 b, .int .i64 cc, .int .i64 d, .int .i64 l', .int .i64 rr', .int .i64 2, .int .i64 0, .int .i64 0, .int .i64 H, .int .i64 W, .int .i64 it, .int .i64 il, .int .i64 ib, .int .i64 ir, .int .u32 m', .int .i64 lv', .bool eg, .bool st, .int .i64 su, .bool bl, .int .i64 pg, .int .i64 ps]), ((w.heap.size + 1), 45, zO .u32)] (((((w5).setCell ⟨w.heap.size, 10, none⟩ (.int .i64 l')).setCell ⟨w.heap.size, 11, none⟩ (.int .i64 rr')).setCell ⟨w.heap.size, 21, none⟩ (.int .u32 m')).setCell ⟨w.heap.size, 22, none⟩ (.int .i64 lv'))) := Lib.hid (HS21.out.s0 22 (.int .i64 lv'))
    have HS25 : Hid (Bs w [(w.heap.size, 45, #[.int .i64 r', .int .i64 c', .int .u8 rd', .bool kp, .bool wp, .bool og, .int .i64 a, .int .i64 b, .int .i64 cc, .int .i64 d, .int .i64 l', .int .i64 rr', .int .i64 2, .int .i64 0, .int .i64 0, .int .i64 H, .int .i64 W, .int .i64 it, .int .i64 il, .int .i64 ib, .int .i64 ir, .int .u32 m', .int .i64 lv', .bool eg, .bool st, .int .i64 su', .bool bl, .int .i64 pg, .int .i64 ps]), ((w.heap.size + 1), 45, zO .u32)] ((((((w5).setCell ⟨w.heap.size, 10, none⟩ (.int .i64 l')).setCell ⟨w.heap.size, 11, none⟩ (.int .i64 rr')).setCell ⟨w.heap.size, 21, none⟩ (.int .u32 m')).setCell ⟨w.heap.size, 22, none⟩ (.int .i64 lv')).setCell ⟨w.heap.size, 25, none⟩ (.int .i64 su'))) := Lib.hid (HS22.out.s0 25 (.int .i64 su'))
    have HS28 : Hid (Bs w [(w.heap.size, 45, #[.int .i64 r', .int .i64 c', .int .u8 rd', .bool kp, .bool wp, .bool og, .int .i64 a, .int .i64 b, .int .i64 cc, .int .i64 d, .int .i64 l', .int .i64 rr', .int .i64 2, .int .i64 0, .int .i64 0, .int .i64 H, .int .i64 W, .int .i64 it, .int .i64 il, .int .i64 ib, .int .i64 ir, .int .u32 m', .int .i64 lv', .bool eg, .bool st, .int .i64 su', .bool bl, .int .i64 pg, .int .i64 ps']), ((w.heap.size + 1), 45, zO .u32)] (((((((w5).setCell ⟨w.heap.size, 10, none⟩ (.int .i64 l')).setCell ⟨w.heap.size, 11, none⟩ (.int .i64 rr')).setCell ⟨w.heap.size, 21, none⟩ (.int .u32 m')).setCell ⟨w.heap.size, 22, none⟩ (.int .i64 lv')).setCell ⟨w.heap.size, 25, none⟩ (.int .i64 su')).setCell ⟨w.heap.size, 28, none⟩ (.int .i64 ps'))) := Lib.hid (HS25.out.s0 28 (.int .i64 ps'))
    have HS27 : Hid (Bs w [(w.heap.size, 45, #[.int .i64 r', .int .i64 c', .int .u8 rd', .bool kp, .bool wp, .bool og, .int .i64 a, .int .i64 b, .int .i64 cc, .int .i64 d, .int .i64 l', .int .i64 rr', .int .i64 2, .int .i64 0, .int .i64 0, .int .i64 H, .int .i64 W, .int .i64 it, .int .i64 il, .int .i64 ib, .int .i64 ir, .int .u32 m', .int .i64 lv', .bool eg, .bool st, .int .i64 su', .bool bl, .int .i64 pg', .int .i64 ps']), ((w.heap.size + 1), 45, zO .u32)] ((((((((w5).setCell ⟨w.heap.size, 10, none⟩ (.int .i64 l')).setCell ⟨w.heap.size, 11, none⟩ (.int .i64 rr')).setCell ⟨w.heap.size, 21, none⟩ (.int .u32 m')).setCell ⟨w.heap.size, 22, none⟩ (.int .i64 lv')).setCell ⟨w.heap.size, 25, none⟩ (.int .i64 su')).setCell ⟨w.heap.size, 28, none⟩ (.int .i64 ps')).setCell ⟨w.heap.size, 27, none⟩ (.int .i64 pg'))) := Lib.hid (HS28.out.s0 27 (.int .i64 pg'))
    --#x5
    have HK8 : Hid (Bs w [(w.heap.size, 45, #[.int .i64 r', .int .i64 c', .int .u8 rd', .bool kp, .bool wp, .bool og, .int .i64 a, .int .i64 b, .int .i64 cc, .int .i64 d, .int .i64 l', .int .i64 rr', .int .i64 2, .int .i64 0, .int .i64 0, .int .i64 H, .int .i64 W, .int .i64 it, .int .i64 il, .int .i64 ib, .int .i64 ir, .int .u32 m', .int .i64 lv', .bool eg, .bool st, .int .i64 su', .bool bl, .int .i64 pg', .int .i64 ps']), ((w.heap.size + 1), 45, zO .u32)] ((((((((w5).setCell ⟨w.heap.size, 10, none⟩ (.int .i64 l')).setCell ⟨w.heap.size, 11, none⟩ (.int .i64 rr')).setCell ⟨w.heap.size, 21, none⟩ (.int .u32 m')).setCell ⟨w.heap.size, 22, none⟩ (.int .i64 lv')).setCell ⟨w.heap.size, 25, none⟩ (.int .i64 su')).setCell ⟨w.heap.size, 28, none⟩ (.int .i64 ps')).setCell ⟨w.heap.size, 27, none⟩ (.int .i64 pg'))) := Lib.hid HS27.out
    clear HK7 c10 z10 c11 z11 c12 z12 c21 z21 c22 z22 c25 z25 c28 z28
    --#x6
    generalize hfin : (#[.int .i64 r', .int .i64 c', .int .u8 rd', .bool kp, .bool wp, .bool og, .int .i64 a, .int .i64 b, .int .i64 cc, .int .i64 d, .int .i64 l', .int .i64 rr', .int .i64 2, .int .i64 0, .int .i64 0, .int .i64 H, .int .i64 W, .int .i64 it, .int .i64 il, .int .i64 ib, .int .i64 ir, .int .u32 m', .int .i64 lv', .bool eg, .bool st, .int .i64 su', .bool bl, .int .i64 pg', .int .i64 ps'] : Array Value) = fin at HK8
    have hs29 : fin.size = 29 := by rw [← hfin]; rfl
    have ho29 : fin.all (·.oneCell') = true := by rw [← hfin]; exact co_one .u32 ⟨r', c', wp, ⟨rd', kp, og, a, b, cc, d, l', rr', 2⟩, ⟨0, 0, H, W, it, il, ib, ir⟩, m', lv', eg, st, su', bl, pg', ps'⟩
    have HK9 := Lib.hid (HK8.out.sw1.row fin)
    clear HT HFc HCl HCm HC1 HC2 HC3 HC4 q1 q2
    go_upto_region 12 with fail
    go_step
    refine wpList_load_row rfl _ _ rfl w.heap.size rfl _ fin (0, 0) _ HK8.out.b0 under_co rfl (by rw [hs29]; exact info_co) ?_
    refine wpList_store_row rfl _ _ _ rfl (w.heap.size + 1) fin rfl rfl _ _ HK8.out.b1 (by rw [hs29]; exact info_co) (by rw [hs29]; rfl) ho29 ?_
    repeat go_step
    --#x7
    refine bodyPost_ret (v := .agg fin) (results_cell_row rfl _ _ (w.heap.size + 1) 45 fin (0, 0) _ rfl HK9.out.b0 under_co rfl (by rw [hs29]; exact info_co)) rfl ⟨?_, HK9.out.bel⟩
    rw [← hfin]
  · skip
    --#y0
    go_wp2_with fail
    refine (HCm.out _).mono ?_
    rintro e _ ⟨rfl, rfl⟩
    --#y1
    go_wp2_with fail
    refine (HC1.out _).mono ?_
    rintro e _ ⟨rfl, rfl⟩
    --#y2
    go_wp2_with fail
    refine (HC2.out _).mono ?_
    rintro e _ ⟨rfl, rfl⟩
    --#y3
    go_wp2_with fail
    refine (HC3.out _).mono ?_
    rintro e _ ⟨rfl, rfl⟩
    --#y4
    go_wp2_with fail
    refine (HC4.out _).mono ?_
    rintro e _ ⟨rfl, rfl⟩
    have HS10 : Hid (Bs w [(w.heap.size, 45, #[.int .i64 r', .int .i64 c', .int .u8 rd', .bool kp, .bool wp, .bool og, .int .i64 a, .int .i64 b, .int .i64 cc, .int .i64 d, .int .i64 l', .int .i64 rr, .int .i64 3, .int .i64 0, .int .i64 0, .int .i64 H, .int .i64 W, .int .i64 it, .int .i64 il, .int .i64 ib, .int .i64 ir, .int .u32 m, .int .i64 lv, .bool eg, .bool st, .int .i64 su, .bool bl, .int .i64 pg, .int .i64 ps]), ((w.heap.size + 1), 45, zO .u32)] ((w5).setCell ⟨w.heap.size, 10, none⟩ (.int .i64 l'))) := Lib.hid (HK7.out.s0 10 (.int .i64 l'))
    have HS11 : Hid (Bs w [(w.heap.size, 45, #[.int .i64 r', .int .i64 c', .int .u8 rd', .bool kp, .bool wp, .bool og, .int .i64 a, .int .i64 b, .int .i64 cc, .int .i64 d, .int .i64 l', .int .i64 rr', .int .i64 3, .int .i64 0, .int .i64 0, .int .i64 H, .int .i64 W, .int .i64 it, .int .i64 il, .int .i64 ib, .int .i64 ir, .int .u32 m, .int .i64 lv, .bool eg, .bool st, .int .i64 su, .bool bl, .int .i64 pg, .int .i64 ps]), ((w.heap.size + 1), 45, zO .u32)] (((w5).setCell ⟨w.heap.size, 10, none⟩ (.int .i64 l')).setCell ⟨w.heap.size, 11, none⟩ (.int .i64 rr'))) := Lib.hid (HS10.out.s0 11 (.int .i64 rr'))
    have HS21 : Hid (Bs w [(w.heap.size, 45, #[.int .i64 r', .int .i64 c', .int .u8 rd', .bool kp, .bool wp, .bool og, .int .i64 a, .int .i64 b, .int .i64 cc, .int .i64 d, .int .i64 l', .int .i64 rr', .int .i64 3, .int .i64 0, .int .i64 0, .int .i64 H, .int .i64 W, .int .i64 it, .int .i64 il, .int .i64 ib, .int .i64 ir, .int .u32 m', .int .i64 lv, .bool eg, .bool st, .int .i64 su, .bool bl, .int .i64 pg, .int .i64 ps]), ((w.heap.size + 1), 45, zO .u32)] ((((w5).setCell ⟨w.heap.size, 10, none⟩ (.int .i64 l')).setCell ⟨w.heap.size, 11, none⟩ (.int .i64 rr')).setCell ⟨w.heap.size, 21, none⟩ (.int .u32 m'))) := Lib.hid (HS11.out.s0 21 (.int .u32 m'))
    have HS22 : Hid (Bs w [(w.heap.size, 45, #[.int .i64 r', .int .i64 c', .int .u8 rd', .bool kp, .bool wp, .bool og, .int .i64 a, .int .i64 b, .int .i64 cc, .int .i64 d, .int .i64 l', .int .i64 rr', .int .i64 3, .int .i64 0, .int .i64 0, .int .i64 H, .int .i64 W, .int .i64 it, .int .i64 il, .int .i64 ib, .int .i64 ir, .int .u32 m', .int .i64 lv', .bool eg, .bool st, .int .i64 su, .bool bl, .int .i64 pg, .int .i64 ps]), ((w.heap.size + 1), 45, zO .u32)] (((((w5).setCell ⟨w.heap.size, 10, none⟩ (.int .i64 l')).setCell ⟨w.heap.size, 11, none⟩ (.int .i64 rr')).setCell ⟨w.heap.size, 21, none⟩ (.int .u32 m')).setCell ⟨w.heap.size, 22, none⟩ (.int .i64 lv'))) := Lib.hid (HS21.out.s0 22 (.int .i64 lv'))
    have HS25 : Hid (Bs w [(w.heap.size, 45, #[.int .i64 r', .int .i64 c', .int .u8 rd', .bool kp, .bool wp, .bool og, .int .i64 a, .int .i64 b, .int .i64 cc, .int .i64 d, .int .i64 l', .int .i64 rr', .int .i64 3, .int .i64 0, .int .i64 0, .int .i64 H, .int .i64 W, .int .i64 it, .int .i64 il, .int .i64 ib, .int .i64 ir, .int .u32 m', .int .i64 lv', .bool eg, .bool st, .int .i64 su', .bool bl, .int .i64 pg, .int .i64 ps]), ((w.heap.size + 1), 45, zO .u32)] ((((((w5).setCell ⟨w.heap.size, 10, none⟩ (.int .i64 l')).setCell ⟨w.heap.size, 11, none⟩ (.int .i64 rr')).setCell ⟨w.heap.size, 21, none⟩ (.int .u32 m')).setCell ⟨w.heap.size, 22, none⟩ (.int .i64 lv')).setCell ⟨w.heap.size, 25, none⟩ (.int .i64 su'))) := Lib.hid (HS22.out.s0 25 (.int .i64 su'))
    have HS28 : Hid (Bs w [(w.heap.size, 45, #[.int .i64 r', .int .i64 c', .int .u8 rd', .bool kp, .bool wp, .bool og, .int .i64 a, .int .i64 b, .int .i64 cc, .int .i64 d, .int .i64 l', .int .i64 rr', .int .i64 3, .int .i64 0, .int .i64 0, .int .i64 H, .int .i64 W, .int .i64 it, .int .i64 il, .int .i64 ib, .int .i64 ir, .int .u32 m', .int .i64 lv', .bool eg, .bool st, .int .i64 su', .bool bl, .int .i64 pg, .int .i64 ps']), ((w.heap.size + 1), 45, zO .u32)] (((((((w5).setCell ⟨w.heap.size, 10, none⟩ (.int .i64 l')).setCell ⟨w.heap.size, 11, none⟩ (.int .i64 rr')).setCell ⟨w.heap.size, 21, none⟩ (.int .u32 m')).setCell ⟨w.heap.size, 22, none⟩ (.int .i64 lv')).setCell ⟨w.heap.size, 25, none⟩ (.int .i64 su')).setCell ⟨w.heap.size, 28, none⟩ (.int .i64 ps'))) := Lib.hid (HS25.out.s0 28 (.int .i64 ps'))
    have HS27 : Hid (Bs w [(w.heap.size, 45, #[.int .i64 r', .int .i64 c', .int .u8 rd', .bool kp, .bool wp, .bool og, .int .i64 a, .int .i64 b, .int .i64 cc, .int .i64 d, .int .i64 l', .int .i64 rr', .int .i64 3, .int .i64 0, .int .i64 0, .int .i64 H, .int .i64 W, .int .i64 it, .int .i64 il, .int .i64 ib, .int .i64 ir, .int .u32 m', .int .i64 lv', .bool eg, .bool st, .int .i64 su', .bool bl, .int .i64 pg', .int .i64 ps']), ((w.heap.size + 1), 45, zO .u32)] ((((((((w5).setCell ⟨w.heap.size, 10, none⟩ (.int .i64 l')).setCell ⟨w.heap.size, 11, none⟩ (.int .i64 rr')).setCell ⟨w.heap.size, 21, none⟩ (.int .u32 m')).setCell ⟨w.heap.size, 22, none⟩ (.int .i64 lv')).setCell ⟨w.heap.size, 25, none⟩ (.int .i64 su')).setCell ⟨w.heap.size, 28, none⟩ (.int .i64 ps')).setCell ⟨w.heap.size, 27, none⟩ (.int .i64 pg'))) := Lib.hid (HS28.out.s0 27 (.int .i64 pg'))
    --#y5
    have HK8 : Hid (Bs w [(w.heap.size, 45, #[.int .i64 r', .int .i64 c', .int .u8 rd', .bool kp, .bool wp, .bool og, .int .i64 a, .int .i64 b, .int .i64 cc, .int .i64 d, .int .i64 l', .int .i64 rr', .int .i64 3, .int .i64 0, .int .i64 0, .int .i64 H, .int .i64 W, .int .i64 it, .int .i64 il, .int .i64 ib, .int .i64 ir, .int .u32 m', .int .i64 lv', .bool eg, .bool st, .int .i64 su', .bool bl, .int .i64 pg', .int .i64 ps']), ((w.heap.size + 1), 45, zO .u32)] ((((((((w5).setCell ⟨w.heap.size, 10, none⟩ (.int .i64 l')).setCell ⟨w.heap.size, 11, none⟩ (.int .i64 rr')).setCell ⟨w.heap.size, 21, none⟩ (.int .u32 m')).setCell ⟨w.heap.size, 22, none⟩ (.int .i64 lv')).setCell ⟨w.heap.size, 25, none⟩ (.int .i64 su')).setCell ⟨w.heap.size, 28, none⟩ (.int .i64 ps')).setCell ⟨w.heap.size, 27, none⟩ (.int .i64 pg'))) := Lib.hid HS27.out
    clear HK7 c10 z10 c11 z11 c12 z12 c21 z21 c22 z22 c25 z25 c28 z28
    --#y6
    generalize hfin : (#[.int .i64 r', .int .i64 c', .int .u8 rd', .bool kp, .bool wp, .bool og, .int .i64 a, .int .i64 b, .int .i64 cc, .int .i64 d, .int .i64 l', .int .i64 rr', .int .i64 3, .int .i64 0, .int .i64 0, .int .i64 H, .int .i64 W, .int .i64 it, .int .i64 il, .int .i64 ib, .int .i64 ir, .int .u32 m', .int .i64 lv', .bool eg, .bool st, .int .i64 su', .bool bl, .int .i64 pg', .int .i64 ps'] : Array Value) = fin at HK8
    have hs29 : fin.size = 29 := by rw [← hfin]; rfl
    have ho29 : fin.all (·.oneCell') = true := by rw [← hfin]; exact co_one .u32 ⟨r', c', wp, ⟨rd', kp, og, a, b, cc, d, l', rr', 3⟩, ⟨0, 0, H, W, it, il, ib, ir⟩, m', lv', eg, st, su', bl, pg', ps'⟩
    have HK9 := Lib.hid (HK8.out.sw1.row fin)
    clear HT HFc HCl HCm HC1 HC2 HC3 HC4 q1 q2
    go_upto_region 12 with fail
    go_step
    refine wpList_load_row rfl _ _ rfl w.heap.size rfl _ fin (0, 0) _ HK8.out.b0 under_co rfl (by rw [hs29]; exact info_co) ?_
    refine wpList_store_row rfl _ _ _ rfl (w.heap.size + 1) fin rfl rfl _ _ HK8.out.b1 (by rw [hs29]; exact info_co) (by rw [hs29]; rfl) ho29 ?_
    repeat go_step
    --#y7
    refine bodyPost_ret (v := .agg fin) (results_cell_row rfl _ _ (w.heap.size + 1) 45 fin (0, 0) _ rfl HK9.out.b0 under_co rfl (by rw [hs29]; exact info_co)) rfl ⟨?_, HK9.out.bel⟩
    rw [← hfin]
  · skip
    have g2 : (s == 2) = false := by simpa using hs2
    have g3 : (s == 3) = false := by simpa using hs3
    have g4 : (s != 2) = true := by simpa using hs2
    have g5 : (s != 3) = true := by simpa using hs3
    --#z0
    go_wp2_with fail
    refine (HCm.out _).mono ?_
    rintro e _ ⟨rfl, rfl⟩
    --#z1
    go_wp2_with fail
    refine (HC1.out _).mono ?_
    rintro e _ ⟨rfl, rfl⟩
    --#z2
    go_wp2_with fail
    refine (HC2.out _).mono ?_
    rintro e _ ⟨rfl, rfl⟩
    --#z3
    go_wp2_with fail
    refine (HC3.out _).mono ?_
    rintro e _ ⟨rfl, rfl⟩
    --#z4
    go_wp2_with fail
    refine (HC4.out _).mono ?_
    rintro e _ ⟨rfl, rfl⟩
    have HS10 : Hid (Bs w [(w.heap.size, 45, #[.int .i64 r', .int .i64 c', .int .u8 rd', .bool kp, .bool wp, .bool og, .int .i64 a, .int .i64 b, .int .i64 cc, .int .i64 d, .int .i64 l', .int .i64 rr, .int .i64 s, .int .i64 0, .int .i64 0, .int .i64 H, .int .i64 W, .int .i64 it, .int .i64 il, .int .i64 ib, .int .i64 ir, .int .u32 m, .int .i64 lv, .bool eg, .bool st, .int .i64 su, .bool bl, .int .i64 pg, .int .i64 ps]), ((w.heap.size + 1), 45, zO .u32)] ((w5).setCell ⟨w.heap.size, 10, none⟩ (.int .i64 l'))) := Lib.hid (HK7.out.s0 10 (.int .i64 l'))
    have HS11 : Hid (Bs w [(w.heap.size, 45, #[.int .i64 r', .int .i64 c', .int .u8 rd', .bool kp, .bool wp, .bool og, .int .i64 a, .int .i64 b, .int .i64 cc, .int .i64 d, .int .i64 l', .int .i64 rr', .int .i64 s, .int .i64 0, .int .i64 0, .int .i64 H, .int .i64 W, .int .i64 it, .int .i64 il, .int .i64 ib, .int .i64 ir, .int .u32 m, .int .i64 lv, .bool eg, .bool st, .int .i64 su, .bool bl, .int .i64 pg, .int .i64 ps]), ((w.heap.size + 1), 45, zO .u32)] (((w5).setCell ⟨w.heap.size, 10, none⟩ (.int .i64 l')).setCell ⟨w.heap.size, 11, none⟩ (.int .i64 rr'))) := Lib.hid (HS10.out.s0 11 (.int .i64 rr'))
    have HS12 : Hid (Bs w [(w.heap.size, 45, #[.int .i64 r', .int .i64 c', .int .u8 rd', .bool kp, .bool wp, .bool og, .int .i64 a, .int .i64 b, .int .i64 cc, .int .i64 d, .int .i64 l', .int .i64 rr', .int .i64 0, .int .i64 0, .int .i64 0, .int .i64 H, .int .i64 W, .int .i64 it, .int .i64 il, .int .i64 ib, .int .i64 ir, .int .u32 m, .int .i64 lv, .bool eg, .bool st, .int .i64 su, .bool bl, .int .i64 pg, .int .i64 ps]), ((w.heap.size + 1), 45, zO .u32)] ((((w5).setCell ⟨w.heap.size, 10, none⟩ (.int .i64 l')).setCell ⟨w.heap.size, 11, none⟩ (.int .i64 rr')).setCell ⟨w.heap.size, 12, none⟩ (.int .i64 0))) := Lib.hid (HS11.out.s0 12 (.int .i64 0))
    have HS21 : Hid (Bs w [(w.heap.size, 45, #[.int .i64 r', .int .i64 c', .int .u8 rd', .bool kp, .bool wp, .bool og, .int .i64 a, .int .i64 b, .int .i64 cc, .int .i64 d, .int .i64 l', .int .i64 rr', .int .i64 0, .int .i64 0, .int .i64 0, .int .i64 H, .int .i64 W, .int .i64 it, .int .i64 il, .int .i64 ib, .int .i64 ir, .int .u32 m', .int .i64 lv, .bool eg, .bool st, .int .i64 su, .bool bl, .int .i64 pg, .int .i64 ps]), ((w.heap.size + 1), 45, zO .u32)] (((((w5).setCell ⟨w.heap.size, 10, none⟩ (.int .i64 l')).setCell ⟨w.heap.size, 11, none⟩ (.int .i64 rr')).setCell ⟨w.heap.size, 12, none⟩ (.int .i64 0)).setCell ⟨w.heap.size, 21, none⟩ (.int .u32 m'))) := Lib.hid (HS12.out.s0 21 (.int .u32 m'))
    have HS22 : Hid (Bs w [(w.heap.size, 45, #[.int .i64 r', .int .i64 c', .int .u8 rd', .bool kp, .bool wp, .bool og, .int .i64 a, .int .i64 b, .int .i64 cc, .int .i64 d, .int .i64 l', .int .i64 rr', .int .i64 0, .int .i64 0, .int .i64 0, .int .i64 H, .int .i64 W, .int .i64 it, .int .i64 il, .int .i64 ib, .int .i64 ir, .int .u32 m', .int .i64 lv', .bool eg, .bool st, .int .i64 su, .bool bl, .int .i64 pg, .int .i64 ps]), ((w.heap.size + 1), 45, zO .u32)] ((((((w5).setCell ⟨w.heap.size, 10, none⟩ (.int .i64 l')).setCell ⟨w.heap.size, 11, none⟩ (.int .i64 rr')).setCell ⟨w.heap.size, 12, none⟩ (.int .i64 0)).setCell ⟨w.heap.size, 21, none⟩ (.int .u32 m')).setCell ⟨w.heap.size, 22, none⟩ (.int .i64 lv'))) := Lib.hid (HS21.out.s0 22 (.int .i64 lv'))
    have HS25 : Hid (Bs w [(w.heap.size, 45, #[.int .i64 r', .int .i64 c', .int .u8 rd', .bool kp, .bool wp, .bool og, .int .i64 a, .int .i64 b, .int .i64 cc, .int .i64 d, .int .i64 l', .int .i64 rr', .int .i64 0, .int .i64 0, .int .i64 0, .int .i64 H, .int .i64 W, .int .i64 it, .int .i64 il, .int .i64 ib, .int .i64 ir, .int .u32 m', .int .i64 lv', .bool eg, .bool st, .int .i64 su', .bool bl, .int .i64 pg, .int .i64 ps]), ((w.heap.size + 1), 45, zO .u32)] (((((((w5).setCell ⟨w.heap.size, 10, none⟩ (.int .i64 l')).setCell ⟨w.heap.size, 11, none⟩ (.int .i64 rr')).setCell ⟨w.heap.size, 12, none⟩ (.int .i64 0)).setCell ⟨w.heap.size, 21, none⟩ (.int .u32 m')).setCell ⟨w.heap.size, 22, none⟩ (.int .i64 lv')).setCell ⟨w.heap.size, 25, none⟩ (.int .i64 su'))) := Lib.hid (HS22.out.s0 25 (.int .i64 su'))
    have HS28 : Hid (Bs w [(w.heap.size, 45, #[.int .i64 r', .int .i64 c', .int .u8 rd', .bool kp, .bool wp, .bool og, .int .i64 a, .int .i64 b, .int .i64 cc, .int .i64 d, .int .i64 l', .int .i64 rr', .int .i64 0, .int .i64 0, .int .i64 0, .int .i64 H, .int .i64 W, .int .i64 it, .int .i64 il, .int .i64 ib, .int .i64 ir, .int .u32 m', .int .i64 lv', .bool eg, .bool st, .int .i64 su', .bool bl, .int .i64 pg, .int .i64 ps']), ((w.heap.size + 1), 45, zO .u32)] ((((((((w5).setCell ⟨w.heap.size, 10, none⟩ (.int .i64 l')).setCell ⟨w.heap.size, 11, none⟩ (.int .i64 rr')).setCell ⟨w.heap.size, 12, none⟩ (.int .i64 0)).setCell ⟨w.heap.size, 21, none⟩ (.int .u32 m')).setCell ⟨w.heap.size, 22, none⟩ (.int .i64 lv')).setCell ⟨w.heap.size, 25, none⟩ (.int .i64 su')).setCell ⟨w.heap.size, 28, none⟩ (.int .i64 ps'))) := Lib.hid (HS25.out.s0 28 (.int .i64 ps'))
    have HS27 : Hid (Bs w [(w.heap.size, 45, #[.int .i64 r', .int .i64 c', .int .u8 rd', .bool kp, .bool wp, .bool og, .int .i64 a, .int .i64 b, .int .i64 cc, .int .i64 d, .int .i64 l', .int .i64 rr', .int .i64 0, .int .i64 0, .int .i64 0, .int .i64 H, .int .i64 W, .int .i64 it, .int .i64 il, .int .i64 ib, .int .i64 ir, .int .u32 m', .int .i64 lv', .bool eg, .bool st, .int .i64 su', .bool bl, .int .i64 pg', .int .i64 ps']), ((w.heap.size + 1), 45, zO .u32)] (((((((((w5).setCell ⟨w.heap.size, 10, none⟩ (.int .i64 l')).setCell ⟨w.heap.size, 11, none⟩ (.int .i64 rr')).setCell ⟨w.heap.size, 12, none⟩ (.int .i64 0)).setCell ⟨w.heap.size, 21, none⟩ (.int .u32 m')).setCell ⟨w.heap.size, 22, none⟩ (.int .i64 lv')).setCell ⟨w.heap.size, 25, none⟩ (.int .i64 su')).setCell ⟨w.heap.size, 28, none⟩ (.int .i64 ps')).setCell ⟨w.heap.size, 27, none⟩ (.int .i64 pg'))) := Lib.hid (HS28.out.s0 27 (.int .i64 pg'))
    --#z5
    have HK8 : Hid (Bs w [(w.heap.size, 45, #[.int .i64 r', .int .i64 c', .int .u8 rd', .bool kp, .bool wp, .bool og, .int .i64 a, .int .i64 b, .int .i64 cc, .int .i64 d, .int .i64 l', .int .i64 rr', .int .i64 0, .int .i64 0, .int .i64 0, .int .i64 H, .int .i64 W, .int .i64 it, .int .i64 il, .int .i64 ib, .int .i64 ir, .int .u32 m', .int .i64 lv', .bool eg, .bool st, .int .i64 su', .bool bl, .int .i64 pg', .int .i64 ps']), ((w.heap.size + 1), 45, zO .u32)] (((((((((w5).setCell ⟨w.heap.size, 10, none⟩ (.int .i64 l')).setCell ⟨w.heap.size, 11, none⟩ (.int .i64 rr')).setCell ⟨w.heap.size, 12, none⟩ (.int .i64 0)).setCell ⟨w.heap.size, 21, none⟩ (.int .u32 m')).setCell ⟨w.heap.size, 22, none⟩ (.int .i64 lv')).setCell ⟨w.heap.size, 25, none⟩ (.int .i64 su')).setCell ⟨w.heap.size, 28, none⟩ (.int .i64 ps')).setCell ⟨w.heap.size, 27, none⟩ (.int .i64 pg'))) := Lib.hid HS27.out
    clear HK7 c10 z10 c11 z11 c12 z12 c21 z21 c22 z22 c25 z25 c28 z28
    --#z6
    generalize hfin : (#[.int .i64 r', .int .i64 c', .int .u8 rd', .bool kp, .bool wp, .bool og, .int .i64 a, .int .i64 b, .int .i64 cc, .int .i64 d, .int .i64 l', .int .i64 rr', .int .i64 0, .int .i64 0, .int .i64 0, .int .i64 H, .int .i64 W, .int .i64 it, .int .i64 il, .int .i64 ib, .int .i64 ir, .int .u32 m', .int .i64 lv', .bool eg, .bool st, .int .i64 su', .bool bl, .int .i64 pg', .int .i64 ps'] : Array Value) = fin at HK8
    have hs29 : fin.size = 29 := by rw [← hfin]; rfl
    have ho29 : fin.all (·.oneCell') = true := by rw [← hfin]; exact co_one .u32 ⟨r', c', wp, ⟨rd', kp, og, a, b, cc, d, l', rr', 0⟩, ⟨0, 0, H, W, it, il, ib, ir⟩, m', lv', eg, st, su', bl, pg', ps'⟩
    have HK9 := Lib.hid (HK8.out.sw1.row fin)
    clear HT HFc HCl HCm HC1 HC2 HC3 HC4 q1 q2
    go_upto_region 12 with fail
    go_step
    refine wpList_load_row rfl _ _ rfl w.heap.size rfl _ fin (0, 0) _ HK8.out.b0 under_co rfl (by rw [hs29]; exact info_co) ?_
    refine wpList_store_row rfl _ _ _ rfl (w.heap.size + 1) fin rfl rfl _ _ HK8.out.b1 (by rw [hs29]; exact info_co) (by rw [hs29]; rfl) ho29 ?_
    repeat go_step
    --#z7
    refine bodyPost_ret (v := .agg fin) (results_cell_row rfl _ _ (w.heap.size + 1) 45 fin (0, 0) _ rfl HK9.out.b0 under_co rfl (by rw [hs29]; exact info_co)) rfl ⟨?_, HK9.out.bel⟩
    rw [← hfin]
end Go.Proofs.YtfnamfkjbkhgeaaGreatDoor

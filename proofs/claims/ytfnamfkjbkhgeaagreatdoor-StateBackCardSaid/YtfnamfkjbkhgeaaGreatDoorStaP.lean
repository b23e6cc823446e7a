/-
  What reads the fields of the cursor's report: method values, each with its reach.
-/
import Derived.Test.YtfnamfkjbkhgeaaGreatDoorStaO
namespace Go.Proofs.YtfnamfkjbkhgeaaGreatDoor
open Go Go.RowKit

def nrF (lo hi : Int) : Value := .func (.func 80) #[rchV lo hi] #[]
def btF (lo hi : Int) : Value := .func (.func 81) #[rchV lo hi] #[]
def rdrs (H W P : Int) : Array Value := #[nrF 1 H, nrF 1 W, nrF 1 P, btF 0 31, btF 0 1, btF 0 15, nrF 0 65535, nrF 0 65535, btF 0 15]
theorem info_rdr : (Tryz.prog.info? 86).map (·.size) = some 9 := by kernel_rfl
theorem under_rdr : ∃ T, Tryz.prog.underlying 86 = some (.array 9 T) := ⟨_, Tryz.underlying86⟩
set_option maxRecDepth 100000 in
set_option maxHeartbeats 4000000 in
theorem readers_any (y : Co) (hk : ClOk y) (w : World) :
    Calls Tryz.prog 35 #[coV .u32 y] w fun e w' => e = .returned (.agg (rdrs y.f.pb y.f.pr y.ps)) ∧ Below w.heap.size w w' := by
  have hk2 := hk.h2; have hk3 := hk.h3
  have HSz := Lib.hid (fun V => size_any y.f.pt y.f.pl y.f.pb y.f.pr (by have := hk.h1; unfold Sm; omega) (by have := hk.h1; unfold Sm; omega) (by unfold Sm; omega) (by unfold Sm; omega) V)
  rw [show bEm y.f.pt y.f.pl y.f.pb y.f.pr = false from by have := hk.h1; unfold bEm emB; simp; omega, show y.f.pb - y.f.pt = y.f.pb from by have := hk.h1; omega, show y.f.pr - y.f.pl = y.f.pr from by have := hk.h1; omega] at HSz
  simp only [Bool.false_eq_true, if_false] at HSz
  clear hk hk2 hk3
  obtain ⟨r, c, wp, ⟨rd, kp, og, a, b, cc, d, l, rr, s⟩, ⟨pt, pl, pb, pr, mt, ml, mb, mr⟩, m, lv, eg, st, su, bl, pg, ps⟩ := y
  unfold coV
  simp only [coC] at *
  unfold bV at HSz
  generalize hmz : (m : Int) = mz at *
  have HS := Lib.hid (Bs.start2' w 45 86 #[.int .i64 r, .int .i64 c, .int .u8 rd, .bool kp, .bool wp, .bool og, .int .i64 a, .int .i64 b, .int .i64 cc, .int .i64 d, .int .i64 l, .int .i64 rr, .int .i64 s, .int .i64 pt, .int .i64 pl, .int .i64 pb, .int .i64 pr, .int .i64 mt, .int .i64 ml, .int .i64 mb, .int .i64 mr, .int .u32 mz, .int .i64 lv, .bool eg, .bool st, .int .i64 su, .bool bl, .int .i64 pg, .int .i64 ps] #[.nilFunc, .nilFunc, .nilFunc, .nilFunc, .nilFunc, .nilFunc, .nilFunc, .nilFunc, .nilFunc])
  have c13 := HS.out.b0.cell 13
  have c14 := HS.out.b0.cell 14
  have c15 := HS.out.b0.cell 15
  have c16 := HS.out.b0.cell 16
  --#1
  go_enter Tryz.func35, Tryz.ntmps35
  go_wp2_with fail
  refine (HSz.out _).mono ?_
  rintro e w1 ⟨rfl, hb⟩
  have HK1 := Lib.hid (HS.out.next hb)
  clear hb HS c13 c14 c15 c16
  have c28 := HK1.out.b0.cell 28
  have hmf : ∀ fn first cap W, (Instr.makeFunc fn first cap).run Tryz.prog W = .ok (.func fn first cap) W := fun fn first cap W => rfl
  go_upto_region 2 with fail
  --#2
  have q0 : Bs w [(w.heap.size + 1, 86, #[nrF 1 pb, .nilFunc, .nilFunc, .nilFunc, .nilFunc, .nilFunc, .nilFunc, .nilFunc, .nilFunc]), (w.heap.size, 45, #[.int .i64 r, .int .i64 c, .int .u8 rd, .bool kp, .bool wp, .bool og, .int .i64 a, .int .i64 b, .int .i64 cc, .int .i64 d, .int .i64 l, .int .i64 rr, .int .i64 s, .int .i64 pt, .int .i64 pl, .int .i64 pb, .int .i64 pr, .int .i64 mt, .int .i64 ml, .int .i64 mb, .int .i64 mr, .int .u32 mz, .int .i64 lv, .bool eg, .bool st, .int .i64 su, .bool bl, .int .i64 pg, .int .i64 ps])] ((w1).setCell ⟨w.heap.size + 1, 0, none⟩ (nrF 1 pb)) := HK1.out.sw1.s0 0 (nrF 1 pb)
  have q1 : Bs w [(w.heap.size + 1, 86, #[nrF 1 pb, nrF 1 pr, .nilFunc, .nilFunc, .nilFunc, .nilFunc, .nilFunc, .nilFunc, .nilFunc]), (w.heap.size, 45, #[.int .i64 r, .int .i64 c, .int .u8 rd, .bool kp, .bool wp, .bool og, .int .i64 a, .int .i64 b, .int .i64 cc, .int .i64 d, .int .i64 l, .int .i64 rr, .int .i64 s, .int .i64 pt, .int .i64 pl, .int .i64 pb, .int .i64 pr, .int .i64 mt, .int .i64 ml, .int .i64 mb, .int .i64 mr, .int .u32 mz, .int .i64 lv, .bool eg, .bool st, .int .i64 su, .bool bl, .int .i64 pg, .int .i64 ps])] (((w1).setCell ⟨w.heap.size + 1, 0, none⟩ (nrF 1 pb)).setCell ⟨w.heap.size + 1, 1, none⟩ (nrF 1 pr)) := q0.s0 1 (nrF 1 pr)
  have q2 : Bs w [(w.heap.size + 1, 86, #[nrF 1 pb, nrF 1 pr, nrF 1 ps, .nilFunc, .nilFunc, .nilFunc, .nilFunc, .nilFunc, .nilFunc]), (w.heap.size, 45, #[.int .i64 r, .int .i64 c, .int .u8 rd, .bool kp, .bool wp, .bool og, .int .i64 a, .int .i64 b, .int .i64 cc, .int .i64 d, .int .i64 l, .int .i64 rr, .int .i64 s, .int .i64 pt, .int .i64 pl, .int .i64 pb, .int .i64 pr, .int .i64 mt, .int .i64 ml, .int .i64 mb, .int .i64 mr, .int .u32 mz, .int .i64 lv, .bool eg, .bool st, .int .i64 su, .bool bl, .int .i64 pg, .int .i64 ps])] ((((w1).setCell ⟨w.heap.size + 1, 0, none⟩ (nrF 1 pb)).setCell ⟨w.heap.size + 1, 1, none⟩ (nrF 1 pr)).setCell ⟨w.heap.size + 1, 2, none⟩ (nrF 1 ps)) := q1.s0 2 (nrF 1 ps)
  have q3 : Bs w [(w.heap.size + 1, 86, #[nrF 1 pb, nrF 1 pr, nrF 1 ps, btF 0 31, .nilFunc, .nilFunc, .nilFunc, .nilFunc, .nilFunc]), (w.heap.size, 45, #[.int .i64 r, .int .i64 c, .int .u8 rd, .bool kp, .bool wp, .bool og, .int .i64 a, .int .i64 b, .int .i64 cc, .int .i64 d, .int .i64 l, .int .i64 rr, .int .i64 s, .int .i64 pt, .int .i64 pl, .int .i64 pb, .int .i64 pr, .int .i64 mt, .int .i64 ml, .int .i64 mb, .int .i64 mr, .int .u32 mz, .int .i64 lv, .bool eg, .bool st, .int .i64 su, .bool bl, .int .i64 pg, .int .i64 ps])] (((((w1).setCell ⟨w.heap.size + 1, 0, none⟩ (nrF 1 pb)).setCell ⟨w.heap.size + 1, 1, none⟩ (nrF 1 pr)).setCell ⟨w.heap.size + 1, 2, none⟩ (nrF 1 ps)).setCell ⟨w.heap.size + 1, 3, none⟩ (btF 0 31)) := q2.s0 3 (btF 0 31)
  have q4 : Bs w [(w.heap.size + 1, 86, #[nrF 1 pb, nrF 1 pr, nrF 1 ps, btF 0 31, btF 0 1, .nilFunc, .nilFunc, .nilFunc, .nilFunc]), (w.heap.size, 45, #[.int .i64 r, .int .i64 c, .int .u8 rd, .bool kp, .bool wp, .bool og, .int .i64 a, .int .i64 b, .int .i64 cc, .int .i64 d, .int .i64 l, .int .i64 rr, .int .i64 s, .int .i64 pt, .int .i64 pl, .int .i64 pb, .int .i64 pr, .int .i64 mt, .int .i64 ml, .int .i64 mb, .int .i64 mr, .int .u32 mz, .int .i64 lv, .bool eg, .bool st, .int .i64 su, .bool bl, .int .i64 pg, .int .i64 ps])] ((((((w1).setCell ⟨w.heap.size + 1, 0, none⟩ (nrF 1 pb)).setCell ⟨w.heap.size + 1, 1, none⟩ (nrF 1 pr)).setCell ⟨w.heap.size + 1, 2, none⟩ (nrF 1 ps)).setCell ⟨w.heap.size + 1, 3, none⟩ (btF 0 31)).setCell ⟨w.heap.size + 1, 4, none⟩ (btF 0 1)) := q3.s0 4 (btF 0 1)
  have q5 : Bs w [(w.heap.size + 1, 86, #[nrF 1 pb, nrF 1 pr, nrF 1 ps, btF 0 31, btF 0 1, btF 0 15, .nilFunc, .nilFunc, .nilFunc]), (w.heap.size, 45, #[.int .i64 r, .int .i64 c, .int .u8 rd, .bool kp, .bool wp, .bool og, .int .i64 a, .int .i64 b, .int .i64 cc, .int .i64 d, .int .i64 l, .int .i64 rr, .int .i64 s, .int .i64 pt, .int .i64 pl, .int .i64 pb, .int .i64 pr, .int .i64 mt, .int .i64 ml, .int .i64 mb, .int .i64 mr, .int .u32 mz, .int .i64 lv, .bool eg, .bool st, .int .i64 su, .bool bl, .int .i64 pg, .int .i64 ps])] (((((((w1).setCell ⟨w.heap.size + 1, 0, none⟩ (nrF 1 pb)).setCell ⟨w.heap.size + 1, 1, none⟩ (nrF 1 pr)).setCell ⟨w.heap.size + 1, 2, none⟩ (nrF 1 ps)).setCell ⟨w.heap.size + 1, 3, none⟩ (btF 0 31)).setCell ⟨w.heap.size + 1, 4, none⟩ (btF 0 1)).setCell ⟨w.heap.size + 1, 5, none⟩ (btF 0 15)) := q4.s0 5 (btF 0 15)
  have q6 : Bs w [(w.heap.size + 1, 86, #[nrF 1 pb, nrF 1 pr, nrF 1 ps, btF 0 31, btF 0 1, btF 0 15, nrF 0 65535, .nilFunc, .nilFunc]), (w.heap.size, 45, #[.int .i64 r, .int .i64 c, .int .u8 rd, .bool kp, .bool wp, .bool og, .int .i64 a, .int .i64 b, .int .i64 cc, .int .i64 d, .int .i64 l, .int .i64 rr, .int .i64 s, .int .i64 pt, .int .i64 pl, .int .i64 pb, .int .i64 pr, .int .i64 mt, .int .i64 ml, .int .i64 mb, .int .i64 mr, .int .u32 mz, .int .i64 lv, .bool eg, .bool st, .int .i64 su, .bool bl, .int .i64 pg, .int .i64 ps])] ((((((((w1).setCell ⟨w.heap.size + 1, 0, none⟩ (nrF 1 pb)).setCell ⟨w.heap.size + 1, 1, none⟩ (nrF 1 pr)).setCell ⟨w.heap.size + 1, 2, none⟩ (nrF 1 ps)).setCell ⟨w.heap.size + 1, 3, none⟩ (btF 0 31)).setCell ⟨w.heap.size + 1, 4, none⟩ (btF 0 1)).setCell ⟨w.heap.size + 1, 5, none⟩ (btF 0 15)).setCell ⟨w.heap.size + 1, 6, none⟩ (nrF 0 65535)) := q5.s0 6 (nrF 0 65535)
  have q7 : Bs w [(w.heap.size + 1, 86, #[nrF 1 pb, nrF 1 pr, nrF 1 ps, btF 0 31, btF 0 1, btF 0 15, nrF 0 65535, nrF 0 65535, .nilFunc]), (w.heap.size, 45, #[.int .i64 r, .int .i64 c, .int .u8 rd, .bool kp, .bool wp, .bool og, .int .i64 a, .int .i64 b, .int .i64 cc, .int .i64 d, .int .i64 l, .int .i64 rr, .int .i64 s, .int .i64 pt, .int .i64 pl, .int .i64 pb, .int .i64 pr, .int .i64 mt, .int .i64 ml, .int .i64 mb, .int .i64 mr, .int .u32 mz, .int .i64 lv, .bool eg, .bool st, .int .i64 su, .bool bl, .int .i64 pg, .int .i64 ps])] (((((((((w1).setCell ⟨w.heap.size + 1, 0, none⟩ (nrF 1 pb)).setCell ⟨w.heap.size + 1, 1, none⟩ (nrF 1 pr)).setCell ⟨w.heap.size + 1, 2, none⟩ (nrF 1 ps)).setCell ⟨w.heap.size + 1, 3, none⟩ (btF 0 31)).setCell ⟨w.heap.size + 1, 4, none⟩ (btF 0 1)).setCell ⟨w.heap.size + 1, 5, none⟩ (btF 0 15)).setCell ⟨w.heap.size + 1, 6, none⟩ (nrF 0 65535)).setCell ⟨w.heap.size + 1, 7, none⟩ (nrF 0 65535)) := q6.s0 7 (nrF 0 65535)
  have q8 : Bs w [(w.heap.size + 1, 86, #[nrF 1 pb, nrF 1 pr, nrF 1 ps, btF 0 31, btF 0 1, btF 0 15, nrF 0 65535, nrF 0 65535, btF 0 15]), (w.heap.size, 45, #[.int .i64 r, .int .i64 c, .int .u8 rd, .bool kp, .bool wp, .bool og, .int .i64 a, .int .i64 b, .int .i64 cc, .int .i64 d, .int .i64 l, .int .i64 rr, .int .i64 s, .int .i64 pt, .int .i64 pl, .int .i64 pb, .int .i64 pr, .int .i64 mt, .int .i64 ml, .int .i64 mb, .int .i64 mr, .int .u32 mz, .int .i64 lv, .bool eg, .bool st, .int .i64 su, .bool bl, .int .i64 pg, .int .i64 ps])] ((((((((((w1).setCell ⟨w.heap.size + 1, 0, none⟩ (nrF 1 pb)).setCell ⟨w.heap.size + 1, 1, none⟩ (nrF 1 pr)).setCell ⟨w.heap.size + 1, 2, none⟩ (nrF 1 ps)).setCell ⟨w.heap.size + 1, 3, none⟩ (btF 0 31)).setCell ⟨w.heap.size + 1, 4, none⟩ (btF 0 1)).setCell ⟨w.heap.size + 1, 5, none⟩ (btF 0 15)).setCell ⟨w.heap.size + 1, 6, none⟩ (nrF 0 65535)).setCell ⟨w.heap.size + 1, 7, none⟩ (nrF 0 65535)).setCell ⟨w.heap.size + 1, 8, none⟩ (btF 0 15)) := q7.s0 8 (btF 0 15)
  have HQ := Lib.hid q8
  clear q0 q1 q2 q3 q4 q5 q6 q7 q8
  have hrd : rdrs pb pr ps = #[nrF 1 pb, nrF 1 pr, nrF 1 ps, btF 0 31, btF 0 1, btF 0 15, nrF 0 65535, nrF 0 65535, btF 0 15] := rfl
  replace hrd := Lib.hid hrd
  unfold nrF btF rchV at HQ hrd
  have e0 : w1.cell? ⟨w.heap.size + 1, 0, none⟩ = some .nilFunc := HK1.out.b1.cell 0
  have z0 : w1.frozen? ⟨w.heap.size + 1, 0, none⟩ = false := HK1.out.b1.frozen 0
  have e1 : w1.cell? ⟨w.heap.size + 1, 1, none⟩ = some .nilFunc := HK1.out.b1.cell 1
  have z1 : w1.frozen? ⟨w.heap.size + 1, 1, none⟩ = false := HK1.out.b1.frozen 1
  have e2 : w1.cell? ⟨w.heap.size + 1, 2, none⟩ = some .nilFunc := HK1.out.b1.cell 2
  have z2 : w1.frozen? ⟨w.heap.size + 1, 2, none⟩ = false := HK1.out.b1.frozen 2
  have e3 : w1.cell? ⟨w.heap.size + 1, 3, none⟩ = some .nilFunc := HK1.out.b1.cell 3
  have z3 : w1.frozen? ⟨w.heap.size + 1, 3, none⟩ = false := HK1.out.b1.frozen 3
  have e4 : w1.cell? ⟨w.heap.size + 1, 4, none⟩ = some .nilFunc := HK1.out.b1.cell 4
  have z4 : w1.frozen? ⟨w.heap.size + 1, 4, none⟩ = false := HK1.out.b1.frozen 4
  have e5 : w1.cell? ⟨w.heap.size + 1, 5, none⟩ = some .nilFunc := HK1.out.b1.cell 5
  have z5 : w1.frozen? ⟨w.heap.size + 1, 5, none⟩ = false := HK1.out.b1.frozen 5
  have e6 : w1.cell? ⟨w.heap.size + 1, 6, none⟩ = some .nilFunc := HK1.out.b1.cell 6
  have z6 : w1.frozen? ⟨w.heap.size + 1, 6, none⟩ = false := HK1.out.b1.frozen 6
  have e7 : w1.cell? ⟨w.heap.size + 1, 7, none⟩ = some .nilFunc := HK1.out.b1.cell 7
  have z7 : w1.frozen? ⟨w.heap.size + 1, 7, none⟩ = false := HK1.out.b1.frozen 7
  have e8 : w1.cell? ⟨w.heap.size + 1, 8, none⟩ = some .nilFunc := HK1.out.b1.cell 8
  have z8 : w1.frozen? ⟨w.heap.size + 1, 8, none⟩ = false := HK1.out.b1.frozen 8
  have hsf : ∀ (a : Addr) (m : Mode) (u : Fn) (x y : Array Value) (W : World), (store a (.func u x y) m).run Tryz.prog W = stored Tryz.prog W a (.func u x y) m := fun a m u x y W => run_store Tryz.prog W a _ m rfl
  --#3
  go_wp2_with fail
  have HQ2 := HQ.out
  rw [← hrd.out] at HQ2
  (try simp only [Exit.inBlock, Exit.then])
  refine bodyPost_ret (v := .agg (rdrs pb pr ps)) (results_cell_row rfl _ _ (w.heap.size + 1) 86 (rdrs pb pr ps) (0, 0) _ rfl HQ2.b0 Tryz.underlying86 rfl info_rdr) rfl ⟨rfl, HQ2.bel⟩
end Go.Proofs.YtfnamfkjbkhgeaaGreatDoor

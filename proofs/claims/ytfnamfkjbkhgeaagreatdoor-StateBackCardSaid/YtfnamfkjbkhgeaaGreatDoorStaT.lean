/-
  What the fields of a cursor's report make of a core.
  The cursor brought back by the program, its last step: what the nine numbers may be, and where they put it.
-/
import Derived.Test.YtfnamfkjbkhgeaaGreatDoorStaQ
import Derived.Test.YtfnamfkjbkhgeaaGreatDoorIsoN
namespace Go.Proofs.YtfnamfkjbkhgeaaGreatDoor
open Go Go.RowKit

theorem Bs.sw3s {w W : World} {x y z u : Nat × TypeId × Array Value} {l : List (Nat × TypeId × Array Value)} (h : Bs w (x :: y :: z :: u :: l) W) : Bs w (u :: x :: y :: z :: l) W :=
  ⟨fun v hv => h.1 v (by simp only [List.mem_cons] at hv ⊢; rcases hv with rfl | rfl | rfl | rfl | hv <;> simp [*]), by
    have h2 := h.2.1
    simp only [List.pairwise_cons, List.forall_mem_cons] at h2 ⊢
    exact ⟨⟨fun e => h2.1.2.2.1 e.symm, fun e => h2.2.1.2.1 e.symm, fun e => h2.2.2.1.1 e.symm, h2.2.2.2.1⟩, ⟨h2.1.1, h2.1.2.1, h2.1.2.2.2⟩, ⟨h2.2.1.1, h2.2.1.2.2⟩, h2.2.2.1.2, h2.2.2.2.2⟩, h.2.2⟩
def sglP (n : Nat) : Int := if n / 2 % 2 = 1 then 2 else if n / 4 % 2 = 1 then 3 else 0
theorem and_2 : ∀ n : Nat, n < 16 → (bits BinOp.and IntKind.i64 (n : Int) 2 != 0) = decide (n / 2 % 2 = 1) := by decide +kernel
theorem and_4 : ∀ n : Nat, n < 16 → (bits BinOp.and IntKind.i64 (n : Int) 4 != 0) = decide (n / 4 % 2 = 1) := by decide +kernel
theorem and_6 : ∀ n : Nat, n < 16 → (bits BinOp.and IntKind.i64 (n : Int) 6 == 6) = (decide (n / 2 % 2 = 1) && decide (n / 4 % 2 = 1)) := by decide +kernel
theorem and_8 : ∀ n : Nat, n < 16 → (bits BinOp.and IntKind.i64 (n : Int) 8 != 0) = decide (8 ≤ n) := by decide +kernel
theorem and_1 : ∀ n : Nat, n < 16 → (bits BinOp.and IntKind.i64 (n : Int) 1 != 0) = decide (n % 2 = 1) := by decide +kernel
set_option maxHeartbeats 2000000 in
theorem single_any (n : Nat) (hn : n < 16) (w : World) : Calls Tryz.prog 83 #[.int .i64 n] w fun e w' => e = .returned (.int .i64 (sglP n)) ∧ w = w' := by
  have h2 := and_2 n hn; have h4 := and_4 n hn
  obtain ⟨V, hV⟩ : ∃ V, V = sglP n := ⟨_, rfl⟩
  rw [← hV]
  unfold sglP at hV
  by_cases g2 : n / 2 % 2 = 1
  · rw [if_pos g2] at hV
    rw [decide_eq_true g2] at h2
    subst hV
    clear h4 g2 hn
    go_enter Tryz.func83, Tryz.ntmps83
    go_wp2_with fail
    go_ret
    exact ⟨rfl, rfl⟩
  · rw [if_neg g2] at hV
    rw [decide_eq_false g2] at h2
    by_cases g4 : n / 4 % 2 = 1
    · rw [if_pos g4] at hV
      rw [decide_eq_true g4] at h4
      subst hV
      clear g4 g2 hn
      go_enter Tryz.func83, Tryz.ntmps83
      go_wp2_with fail
      go_ret
      exact ⟨rfl, rfl⟩
    · rw [if_neg g4] at hV
      rw [decide_eq_false g4] at h4
      subst hV
      clear g4 g2 hn
      go_enter Tryz.func83, Tryz.ntmps83
      go_wp2_with fail
      go_ret
      exact ⟨rfl, rfl⟩
/-- Nine numbers as the report's fields told them. -/
def toldA (t0 t1 t2 t3 : Int) (t4 t5 : Nat) (t6 t7 : Int) (t8 : Nat) : Array Value := #[.int .i64 t0, .int .i64 t1, .int .i64 t2, .int .i64 t3, .int .i64 (t4 : Int), .int .i64 (t5 : Int), .int .i64 t6, .int .i64 t7, .int .i64 (t8 : Int)]
def plcY (y : Co) (t0 t1 t2 t3 : Int) (t4 t5 : Nat) (R : Iso) : Co := ⟨t0 - 1, t1 - 1, decide (8 ≤ t5), ⟨t3, decide (t4 ≠ 0), decide (t5 % 2 = 1), R.a, R.b, R.c, R.d, R.l, R.r, sglP t5⟩, y.f, y.m, y.lv, y.eg, y.st, y.su, y.bl, t2 - 1, y.ps⟩
def plcOk (t5 : Nat) (ok : Bool) : Bool := ok && !(decide (t5 / 2 % 2 = 1) && decide (t5 / 4 % 2 = 1))
def plcV (y : Co) (t0 t1 t2 t3 : Int) (t4 t5 : Nat) (p : Iso × Bool) : Value := .tuple #[coV .u32 (if plcOk t5 p.2 = true then plcY y t0 t1 t2 t3 t4 t5 p.1 else y), .int .i64 (if plcOk t5 p.2 = true then 0 else 3)]
set_option maxRecDepth 100000 in
set_option maxHeartbeats 8000000 in
theorem placed_any (y : Co) (t0 t1 t2 t3 : Int) (t4 t5 : Nat) (t6 t7 : Int) (t8 : Nat) (h0 : 0 ≤ t0 ∧ t0 ≤ 65535) (h1 : 0 ≤ t1 ∧ t1 ≤ 65535) (h2 : 0 ≤ t2 ∧ t2 ≤ 65535) (h3 : 0 ≤ t3 ∧ t3 ≤ 31) (_h4 : t4 < 2) (h5 : t5 < 16) (h8 : t8 < 16) (ids : ByteArray) (w : World) (hF : Faces w) (hBl : Blanks w) :
    Calls Tryz.prog 36 #[coV .u32 y, .agg (toldA t0 t1 t2 t3 t4 t5 t6 t7 t8), .string ids] w fun e w' => e = .returned (plcV y t0 t1 t2 t3 t4 t5 (restP (isoY y) t6 t7 (64 + t8) ids)) ∧ Below w.heap.size w w' := by
  have HR := Lib.hid (fun V f b => isoRestore_any (isoY y) t6 t7 (64 + t8) (by omega) ids V f b)
  have HS1 := Lib.hid (fun V => single_any t5 h5 V)
  have h6 := and_6 t5 h5; have h88 := and_8 t5 h5; have h11 := and_1 t5 h5
  have HFc := Lib.hid hF; have HBk := Lib.hid hBl
  obtain ⟨V, hV⟩ : ∃ V, V = plcV y t0 t1 t2 t3 t4 t5 (restP (isoY y) t6 t7 (64 + t8) ids) := ⟨_, rfl⟩
  rw [← hV]
  generalize restP (isoY y) t6 t7 (64 + t8) ids = p at *
  obtain ⟨⟨ra, rb, rc, re, rl, rq, rs⟩, ok⟩ := p
  simp only [desV, Iso.val, Iso.cs] at HR
  have hwt : IntKind.i64.wrap (64 + (t8 : Int)) = ((64 + t8 : Nat) : Int) := (IntWalk.i64_in _ (by omega)).trans (by omega)
  have hwu : IntKind.u8.wrap ((64 + t8 : Nat) : Int) = ((64 + t8 : Nat) : Int) := IntWalk.u8_in _ (by omega)
  obtain ⟨sz, hsz⟩ : ∃ sz, sz = 64 + t8 := ⟨_, rfl⟩
  rw [← hsz] at HR hwt hwu
  clear hF hBl hsz h8
  unfold coV toldA
  obtain ⟨r, c, wp, ⟨rd, kp, og, a, b, cc, d, l, rr, s⟩, ⟨pt, pl, pb, pr, mt, ml, mb, mr⟩, m, lv, eg, st, su, bl, pg, ps⟩ := y
  unfold isoY at HR
  simp only [coC] at *
  generalize hmz : (m : Int) = mz at *
  replace hV := Lib.hid hV; replace hmz := Lib.hid hmz
  have HS := Lib.hid (Bs.start3 w 45 84 45 #[.int .i64 r, .int .i64 c, .int .u8 rd, .bool kp, .bool wp, .bool og, .int .i64 a, .int .i64 b, .int .i64 cc, .int .i64 d, .int .i64 l, .int .i64 rr, .int .i64 s, .int .i64 pt, .int .i64 pl, .int .i64 pb, .int .i64 pr, .int .i64 mt, .int .i64 ml, .int .i64 mb, .int .i64 mr, .int .u32 mz, .int .i64 lv, .bool eg, .bool st, .int .i64 su, .bool bl, .int .i64 pg, .int .i64 ps] #[.int .i64 t0, .int .i64 t1, .int .i64 t2, .int .i64 t3, .int .i64 (t4 : Int), .int .i64 (t5 : Int), .int .i64 t6, .int .i64 t7, .int .i64 (t8 : Int)] (zO .u32))
  have c6 := HS.out.b2.cell 6
  have c7 := HS.out.b2.cell 7
  have c8 := HS.out.b2.cell 8
  have c9 := HS.out.b2.cell 9
  have c10 := HS.out.b2.cell 10
  have c11 := HS.out.b2.cell 11
  have c12 := HS.out.b2.cell 12
  have d5 := HS.out.b1.cell 5
  have d6 := HS.out.b1.cell 6
  have d7 := HS.out.b1.cell 7
  have d8 := HS.out.b1.cell 8
  --#1
  go_enter Tryz.func36, Tryz.ntmps36
  go_wp2_with fail
  refine (HR.out _ (HFc.out.next HS.out.bel) (HBk.out.next HS.out.bel)).mono ?_
  rintro e w1 ⟨rfl, hb⟩
  have HK1 := Lib.hid (HS.out.next hb)
  clear hb HS c6 c7 c8 c9 c10 c11 c12 d5 d6 d7 d8 HR
  --#2
  go_upto_region 3 with fail
  refine world_gen (fun V => Bs w [(w1.heap.size, 38, #[.int .i64 ra, .int .i64 rb, .int .i64 rc, .int .i64 re, .int .i64 rl, .int .i64 rq, .int .i64 rs]), (w.heap.size + 1 + 1, 45, (zO .u32)), (w.heap.size + 1, 84, #[.int .i64 t0, .int .i64 t1, .int .i64 t2, .int .i64 t3, .int .i64 (t4 : Int), .int .i64 (t5 : Int), .int .i64 t6, .int .i64 t7, .int .i64 (t8 : Int)]), (w.heap.size, 45, #[.int .i64 r, .int .i64 c, .int .u8 rd, .bool kp, .bool wp, .bool og, .int .i64 a, .int .i64 b, .int .i64 cc, .int .i64 d, .int .i64 l, .int .i64 rr, .int .i64 s, .int .i64 pt, .int .i64 pl, .int .i64 pb, .int .i64 pr, .int .i64 mt, .int .i64 ml, .int .i64 mb, .int .i64 mr, .int .u32 mz, .int .i64 lv, .bool eg, .bool st, .int .i64 su, .bool bl, .int .i64 pg, .int .i64 ps])] V) (HK1.out.alloc 38 #[.int .i64 ra, .int .i64 rb, .int .i64 rc, .int .i64 re, .int .i64 rl, .int .i64 rq, .int .i64 rs]) ?_
  intro w2 H2
  generalize w1.heap.size = g at *
  have HK2 := Lib.hid H2
  clear H2 HK1
  have hYo : (#[.int .i64 r, .int .i64 c, .int .u8 rd, .bool kp, .bool wp, .bool og, .int .i64 a, .int .i64 b, .int .i64 cc, .int .i64 d, .int .i64 l, .int .i64 rr, .int .i64 s, .int .i64 pt, .int .i64 pl, .int .i64 pb, .int .i64 pr, .int .i64 mt, .int .i64 ml, .int .i64 mb, .int .i64 mr, .int .u32 mz, .int .i64 lv, .bool eg, .bool st, .int .i64 su, .bool bl, .int .i64 pg, .int .i64 ps] : Array Value).all (·.oneCell') = true := by kernel_rfl
  --#3
  rcases hpk : plcOk t5 ok with _ | _
  · have hVn : V = .tuple #[.agg #[.int .i64 r, .int .i64 c, .int .u8 rd, .bool kp, .bool wp, .bool og, .int .i64 a, .int .i64 b, .int .i64 cc, .int .i64 d, .int .i64 l, .int .i64 rr, .int .i64 s, .int .i64 pt, .int .i64 pl, .int .i64 pb, .int .i64 pr, .int .i64 mt, .int .i64 ml, .int .i64 mb, .int .i64 mr, .int .u32 mz, .int .i64 lv, .bool eg, .bool st, .int .i64 su, .bool bl, .int .i64 pg, .int .i64 ps], .int .i64 3] := by
      rw [hV.out]
      unfold plcV
      rw [hpk, ← hmz.out]
      rfl
    replace hVn := Lib.hid hVn
    have HKf := Lib.hid (HK2.out.sw1.row (#[.int .i64 r, .int .i64 c, .int .u8 rd, .bool kp, .bool wp, .bool og, .int .i64 a, .int .i64 b, .int .i64 cc, .int .i64 d, .int .i64 l, .int .i64 rr, .int .i64 s, .int .i64 pt, .int .i64 pl, .int .i64 pb, .int .i64 pr, .int .i64 mt, .int .i64 ml, .int .i64 mb, .int .i64 mr, .int .u32 mz, .int .i64 lv, .bool eg, .bool st, .int .i64 su, .bool bl, .int .i64 pg, .int .i64 ps]))
    have hway : ok = false ∨ (ok = true ∧ (bits BinOp.and IntKind.i64 (t5 : Int) 6 == 6) = true) := by
      unfold plcOk at hpk
      rcases ok with _ | _
      · exact .inl rfl
      · refine .inr ⟨rfl, ?_⟩
        rw [h6]
        simpa using hpk
    clear hpk hV h6 h88 h11
    rcases hway with rfl | ⟨rfl, hb6⟩
    all_goals
      go_upto_region 4 with fail
      go_step
      refine wpList_load_row rfl _ _ rfl w.heap.size rfl _ (#[.int .i64 r, .int .i64 c, .int .u8 rd, .bool kp, .bool wp, .bool og, .int .i64 a, .int .i64 b, .int .i64 cc, .int .i64 d, .int .i64 l, .int .i64 rr, .int .i64 s, .int .i64 pt, .int .i64 pl, .int .i64 pb, .int .i64 pr, .int .i64 mt, .int .i64 ml, .int .i64 mb, .int .i64 mr, .int .u32 mz, .int .i64 lv, .bool eg, .bool st, .int .i64 su, .bool bl, .int .i64 pg, .int .i64 ps]) (0, 0) _ HK2.out.b3 under_co rfl info_co ?_
      refine wpList_store_row rfl _ _ _ rfl (w.heap.size + 1 + 1) (#[.int .i64 r, .int .i64 c, .int .u8 rd, .bool kp, .bool wp, .bool og, .int .i64 a, .int .i64 b, .int .i64 cc, .int .i64 d, .int .i64 l, .int .i64 rr, .int .i64 s, .int .i64 pt, .int .i64 pl, .int .i64 pb, .int .i64 pr, .int .i64 mt, .int .i64 ml, .int .i64 mb, .int .i64 mr, .int .u32 mz, .int .i64 lv, .bool eg, .bool st, .int .i64 su, .bool bl, .int .i64 pg, .int .i64 ps]) rfl rfl _ _ HK2.out.b1 info_co rfl hYo ?_
      repeat go_step
      refine bodyPost_ret (v := .tuple #[.agg #[.int .i64 r, .int .i64 c, .int .u8 rd, .bool kp, .bool wp, .bool og, .int .i64 a, .int .i64 b, .int .i64 cc, .int .i64 d, .int .i64 l, .int .i64 rr, .int .i64 s, .int .i64 pt, .int .i64 pl, .int .i64 pb, .int .i64 pr, .int .i64 mt, .int .i64 ml, .int .i64 mb, .int .i64 mr, .int .u32 mz, .int .i64 lv, .bool eg, .bool st, .int .i64 su, .bool bl, .int .i64 pg, .int .i64 ps], .int .i64 3]) (results_row_tmp rfl _ _ (w.heap.size + 1 + 1) 45 (#[.int .i64 r, .int .i64 c, .int .u8 rd, .bool kp, .bool wp, .bool og, .int .i64 a, .int .i64 b, .int .i64 cc, .int .i64 d, .int .i64 l, .int .i64 rr, .int .i64 s, .int .i64 pt, .int .i64 pl, .int .i64 pb, .int .i64 pr, .int .i64 mt, .int .i64 ml, .int .i64 mb, .int .i64 mr, .int .u32 mz, .int .i64 lv, .bool eg, .bool st, .int .i64 su, .bool bl, .int .i64 pg, .int .i64 ps]) (0, 0) _ (.int .i64 3) rfl rfl HKf.out.b0 under_co rfl info_co) rfl ⟨by rw [hVn.out], HKf.out.bel⟩
  · --#4
    have hVn : V = .tuple #[coV .u32 (plcY ⟨r, c, wp, ⟨rd, kp, og, a, b, cc, d, l, rr, s⟩, ⟨pt, pl, pb, pr, mt, ml, mb, mr⟩, m, lv, eg, st, su, bl, pg, ps⟩ t0 t1 t2 t3 t4 t5 ⟨ra, rb, rc, re, rl, rq, rs⟩), .int .i64 0] := by
      rw [hV.out]
      unfold plcV
      rw [if_pos hpk, if_pos hpk]
    unfold coV plcY at hVn
    simp only [coC] at hVn
    rw [hmz.out] at hVn
    have hok : ok = true ∧ (bits BinOp.and IntKind.i64 (t5 : Int) 6 == 6) = false := by
      unfold plcOk at hpk
      rw [h6]
      rcases ok with _ | _
      · simp at hpk
      · exact ⟨rfl, by
          simp at hpk
          simp
          omega⟩
    obtain ⟨rfl, hb6⟩ := hok
    have h44 : ((t4 : Int) != 0) = decide (t4 ≠ 0) := by
      rw [Bool.eq_iff_iff]
      simp
    generalize sglP t5 = sg at *
    generalize decide (8 ≤ t5) = b8 at *
    generalize decide (t5 % 2 = 1) = b1 at *
    generalize decide (t4 ≠ 0) = b4 at *
    replace hVn := Lib.hid hVn
    clear hpk hV h6
    have e6 : w2.cell? ⟨g, 6, none⟩ = some (.int .i64 rs) := HK2.out.b0.cell 6
    have z6 : w2.frozen? ⟨g, 6, none⟩ = false := HK2.out.b0.frozen 6
    have hq : Bs w [(g, 38, #[.int .i64 ra, .int .i64 rb, .int .i64 rc, .int .i64 re, .int .i64 rl, .int .i64 rq, .int .i64 sg]), (w.heap.size + 1 + 1, 45, (zO .u32)), (w.heap.size + 1, 84, #[.int .i64 t0, .int .i64 t1, .int .i64 t2, .int .i64 t3, .int .i64 (t4 : Int), .int .i64 (t5 : Int), .int .i64 t6, .int .i64 t7, .int .i64 (t8 : Int)]), (w.heap.size, 45, #[.int .i64 r, .int .i64 c, .int .u8 rd, .bool kp, .bool wp, .bool og, .int .i64 a, .int .i64 b, .int .i64 cc, .int .i64 d, .int .i64 l, .int .i64 rr, .int .i64 s, .int .i64 pt, .int .i64 pl, .int .i64 pb, .int .i64 pr, .int .i64 mt, .int .i64 ml, .int .i64 mb, .int .i64 mr, .int .u32 mz, .int .i64 lv, .bool eg, .bool st, .int .i64 su, .bool bl, .int .i64 pg, .int .i64 ps])] (w2.setCell ⟨g, 6, none⟩ (.int .i64 sg)) := HK2.out.s0 6 (.int .i64 sg)
    have HQ := Lib.hid hq
    clear hq
    go_upto_region 5 with fail
    go_cut [3] (fun sl wx => sl = .pointer (some ⟨w.heap.size, 0, none⟩) ∧ Bs w [(g, 38, #[.int .i64 ra, .int .i64 rb, .int .i64 rc, .int .i64 re, .int .i64 rl, .int .i64 rq, .int .i64 sg]), (w.heap.size + 1 + 1, 45, (zO .u32)), (w.heap.size + 1, 84, #[.int .i64 t0, .int .i64 t1, .int .i64 t2, .int .i64 t3, .int .i64 (t4 : Int), .int .i64 (t5 : Int), .int .i64 t6, .int .i64 t7, .int .i64 (t8 : Int)]), (w.heap.size, 45, #[.int .i64 r, .int .i64 c, .int .u8 rd, .bool kp, .bool wp, .bool og, .int .i64 a, .int .i64 b, .int .i64 cc, .int .i64 d, .int .i64 l, .int .i64 rr, .int .i64 s, .int .i64 pt, .int .i64 pl, .int .i64 pb, .int .i64 pr, .int .i64 mt, .int .i64 ml, .int .i64 mb, .int .i64 mr, .int .u32 mz, .int .i64 lv, .bool eg, .bool st, .int .i64 su, .bool bl, .int .i64 pg, .int .i64 ps])] (wx))
    case first =>
      go_wp2_with (refine (HS1.out _).mono ?_; rintro e w' ⟨rfl, rfl⟩)
      go_meet
      exact ⟨rfl, HQ.out⟩
    case rest =>
    obtain ⟨rfl, H5⟩ := hcut
    rename World => wd5
    have HK5 := Lib.hid H5
    clear H5 HQ HK2 e6 z6 HS1
    --#5
    have e0 : wd5.cell? ⟨g, 0, none⟩ = some (.int .i64 ra) := HK5.out.b0.cell 0
    have e1 : wd5.cell? ⟨g, 1, none⟩ = some (.int .i64 rb) := HK5.out.b0.cell 1
    have e2 : wd5.cell? ⟨g, 2, none⟩ = some (.int .i64 rc) := HK5.out.b0.cell 2
    have e3 : wd5.cell? ⟨g, 3, none⟩ = some (.int .i64 re) := HK5.out.b0.cell 3
    have e4 : wd5.cell? ⟨g, 4, none⟩ = some (.int .i64 rl) := HK5.out.b0.cell 4
    have e5 : wd5.cell? ⟨g, 5, none⟩ = some (.int .i64 rq) := HK5.out.b0.cell 5
    have e6 : wd5.cell? ⟨g, 6, none⟩ = some (.int .i64 sg) := HK5.out.b0.cell 6
    have d0 : wd5.cell? ⟨w.heap.size + 1, 0, none⟩ = some (.int .i64 t0) := HK5.out.b2.cell 0
    have d1 : wd5.cell? ⟨w.heap.size + 1, 1, none⟩ = some (.int .i64 t1) := HK5.out.b2.cell 1
    have d3 : wd5.cell? ⟨w.heap.size + 1, 3, none⟩ = some (.int .i64 t3) := HK5.out.b2.cell 3
    have d4 : wd5.cell? ⟨w.heap.size + 1, 4, none⟩ = some (.int .i64 (t4 : Int)) := HK5.out.b2.cell 4
    have c0 : wd5.cell? ⟨w.heap.size, 0, none⟩ = some (.int .i64 r) := HK5.out.b3.cell 0
    have z0 : wd5.frozen? ⟨w.heap.size, 0, none⟩ = false := HK5.out.b3.frozen 0
    have c1 : wd5.cell? ⟨w.heap.size, 1, none⟩ = some (.int .i64 c) := HK5.out.b3.cell 1
    have z1 : wd5.frozen? ⟨w.heap.size, 1, none⟩ = false := HK5.out.b3.frozen 1
    have c2 : wd5.cell? ⟨w.heap.size, 2, none⟩ = some (.int .u8 rd) := HK5.out.b3.cell 2
    have z2 : wd5.frozen? ⟨w.heap.size, 2, none⟩ = false := HK5.out.b3.frozen 2
    have c3 : wd5.cell? ⟨w.heap.size, 3, none⟩ = some (.bool kp) := HK5.out.b3.cell 3
    have z3 : wd5.frozen? ⟨w.heap.size, 3, none⟩ = false := HK5.out.b3.frozen 3
    have c4 : wd5.cell? ⟨w.heap.size, 4, none⟩ = some (.bool wp) := HK5.out.b3.cell 4
    have z4 : wd5.frozen? ⟨w.heap.size, 4, none⟩ = false := HK5.out.b3.frozen 4
    have c5 : wd5.cell? ⟨w.heap.size, 5, none⟩ = some (.bool og) := HK5.out.b3.cell 5
    have z5 : wd5.frozen? ⟨w.heap.size, 5, none⟩ = false := HK5.out.b3.frozen 5
    have c6 : wd5.cell? ⟨w.heap.size, 6, none⟩ = some (.int .i64 a) := HK5.out.b3.cell 6
    have z6 : wd5.frozen? ⟨w.heap.size, 6, none⟩ = false := HK5.out.b3.frozen 6
    have c7 : wd5.cell? ⟨w.heap.size, 7, none⟩ = some (.int .i64 b) := HK5.out.b3.cell 7
    have z7 : wd5.frozen? ⟨w.heap.size, 7, none⟩ = false := HK5.out.b3.frozen 7
    have c8 : wd5.cell? ⟨w.heap.size, 8, none⟩ = some (.int .i64 cc) := HK5.out.b3.cell 8
    have z8 : wd5.frozen? ⟨w.heap.size, 8, none⟩ = false := HK5.out.b3.frozen 8
    have c9 : wd5.cell? ⟨w.heap.size, 9, none⟩ = some (.int .i64 d) := HK5.out.b3.cell 9
    have z9 : wd5.frozen? ⟨w.heap.size, 9, none⟩ = false := HK5.out.b3.frozen 9
    have c10 : wd5.cell? ⟨w.heap.size, 10, none⟩ = some (.int .i64 l) := HK5.out.b3.cell 10
    have z10 : wd5.frozen? ⟨w.heap.size, 10, none⟩ = false := HK5.out.b3.frozen 10
    have c11 : wd5.cell? ⟨w.heap.size, 11, none⟩ = some (.int .i64 rr) := HK5.out.b3.cell 11
    have z11 : wd5.frozen? ⟨w.heap.size, 11, none⟩ = false := HK5.out.b3.frozen 11
    have c12 : wd5.cell? ⟨w.heap.size, 12, none⟩ = some (.int .i64 s) := HK5.out.b3.cell 12
    have z12 : wd5.frozen? ⟨w.heap.size, 12, none⟩ = false := HK5.out.b3.frozen 12
    have q0 : Bs w [(w.heap.size, 45, #[.int .i64 (t0 - 1), .int .i64 c, .int .u8 rd, .bool kp, .bool wp, .bool og, .int .i64 a, .int .i64 b, .int .i64 cc, .int .i64 d, .int .i64 l, .int .i64 rr, .int .i64 s, .int .i64 pt, .int .i64 pl, .int .i64 pb, .int .i64 pr, .int .i64 mt, .int .i64 ml, .int .i64 mb, .int .i64 mr, .int .u32 mz, .int .i64 lv, .bool eg, .bool st, .int .i64 su, .bool bl, .int .i64 pg, .int .i64 ps]), (g, 38, #[.int .i64 ra, .int .i64 rb, .int .i64 rc, .int .i64 re, .int .i64 rl, .int .i64 rq, .int .i64 sg]), (w.heap.size + 1 + 1, 45, (zO .u32)), (w.heap.size + 1, 84, #[.int .i64 t0, .int .i64 t1, .int .i64 t2, .int .i64 t3, .int .i64 (t4 : Int), .int .i64 (t5 : Int), .int .i64 t6, .int .i64 t7, .int .i64 (t8 : Int)])] ((wd5).setCell ⟨w.heap.size, 0, none⟩ (.int .i64 (t0 - 1))) := HK5.out.sw3s.s0 0 (.int .i64 (t0 - 1))
    have q1 : Bs w [(w.heap.size, 45, #[.int .i64 (t0 - 1), .int .i64 (t1 - 1), .int .u8 rd, .bool kp, .bool wp, .bool og, .int .i64 a, .int .i64 b, .int .i64 cc, .int .i64 d, .int .i64 l, .int .i64 rr, .int .i64 s, .int .i64 pt, .int .i64 pl, .int .i64 pb, .int .i64 pr, .int .i64 mt, .int .i64 ml, .int .i64 mb, .int .i64 mr, .int .u32 mz, .int .i64 lv, .bool eg, .bool st, .int .i64 su, .bool bl, .int .i64 pg, .int .i64 ps]), (g, 38, #[.int .i64 ra, .int .i64 rb, .int .i64 rc, .int .i64 re, .int .i64 rl, .int .i64 rq, .int .i64 sg]), (w.heap.size + 1 + 1, 45, (zO .u32)), (w.heap.size + 1, 84, #[.int .i64 t0, .int .i64 t1, .int .i64 t2, .int .i64 t3, .int .i64 (t4 : Int), .int .i64 (t5 : Int), .int .i64 t6, .int .i64 t7, .int .i64 (t8 : Int)])] (((wd5).setCell ⟨w.heap.size, 0, none⟩ (.int .i64 (t0 - 1))).setCell ⟨w.heap.size, 1, none⟩ (.int .i64 (t1 - 1))) := q0.s0 1 (.int .i64 (t1 - 1))
    have q2 : Bs w [(w.heap.size, 45, #[.int .i64 (t0 - 1), .int .i64 (t1 - 1), .int .u8 t3, .bool kp, .bool wp, .bool og, .int .i64 a, .int .i64 b, .int .i64 cc, .int .i64 d, .int .i64 l, .int .i64 rr, .int .i64 s, .int .i64 pt, .int .i64 pl, .int .i64 pb, .int .i64 pr, .int .i64 mt, .int .i64 ml, .int .i64 mb, .int .i64 mr, .int .u32 mz, .int .i64 lv, .bool eg, .bool st, .int .i64 su, .bool bl, .int .i64 pg, .int .i64 ps]), (g, 38, #[.int .i64 ra, .int .i64 rb, .int .i64 rc, .int .i64 re, .int .i64 rl, .int .i64 rq, .int .i64 sg]), (w.heap.size + 1 + 1, 45, (zO .u32)), (w.heap.size + 1, 84, #[.int .i64 t0, .int .i64 t1, .int .i64 t2, .int .i64 t3, .int .i64 (t4 : Int), .int .i64 (t5 : Int), .int .i64 t6, .int .i64 t7, .int .i64 (t8 : Int)])] ((((wd5).setCell ⟨w.heap.size, 0, none⟩ (.int .i64 (t0 - 1))).setCell ⟨w.heap.size, 1, none⟩ (.int .i64 (t1 - 1))).setCell ⟨w.heap.size, 2, none⟩ (.int .u8 t3)) := q1.s0 2 (.int .u8 t3)
    have q3 : Bs w [(w.heap.size, 45, #[.int .i64 (t0 - 1), .int .i64 (t1 - 1), .int .u8 t3, .bool b4, .bool wp, .bool og, .int .i64 a, .int .i64 b, .int .i64 cc, .int .i64 d, .int .i64 l, .int .i64 rr, .int .i64 s, .int .i64 pt, .int .i64 pl, .int .i64 pb, .int .i64 pr, .int .i64 mt, .int .i64 ml, .int .i64 mb, .int .i64 mr, .int .u32 mz, .int .i64 lv, .bool eg, .bool st, .int .i64 su, .bool bl, .int .i64 pg, .int .i64 ps]), (g, 38, #[.int .i64 ra, .int .i64 rb, .int .i64 rc, .int .i64 re, .int .i64 rl, .int .i64 rq, .int .i64 sg]), (w.heap.size + 1 + 1, 45, (zO .u32)), (w.heap.size + 1, 84, #[.int .i64 t0, .int .i64 t1, .int .i64 t2, .int .i64 t3, .int .i64 (t4 : Int), .int .i64 (t5 : Int), .int .i64 t6, .int .i64 t7, .int .i64 (t8 : Int)])] (((((wd5).setCell ⟨w.heap.size, 0, none⟩ (.int .i64 (t0 - 1))).setCell ⟨w.heap.size, 1, none⟩ (.int .i64 (t1 - 1))).setCell ⟨w.heap.size, 2, none⟩ (.int .u8 t3)).setCell ⟨w.heap.size, 3, none⟩ (.bool b4)) := q2.s0 3 (.bool b4)
    have q4 : Bs w [(w.heap.size, 45, #[.int .i64 (t0 - 1), .int .i64 (t1 - 1), .int .u8 t3, .bool b4, .bool b8, .bool og, .int .i64 a, .int .i64 b, .int .i64 cc, .int .i64 d, .int .i64 l, .int .i64 rr, .int .i64 s, .int .i64 pt, .int .i64 pl, .int .i64 pb, .int .i64 pr, .int .i64 mt, .int .i64 ml, .int .i64 mb, .int .i64 mr, .int .u32 mz, .int .i64 lv, .bool eg, .bool st, .int .i64 su, .bool bl, .int .i64 pg, .int .i64 ps]), (g, 38, #[.int .i64 ra, .int .i64 rb, .int .i64 rc, .int .i64 re, .int .i64 rl, .int .i64 rq, .int .i64 sg]), (w.heap.size + 1 + 1, 45, (zO .u32)), (w.heap.size + 1, 84, #[.int .i64 t0, .int .i64 t1, .int .i64 t2, .int .i64 t3, .int .i64 (t4 : Int), .int .i64 (t5 : Int), .int .i64 t6, .int .i64 t7, .int .i64 (t8 : Int)])] ((((((wd5).setCell ⟨w.heap.size, 0, none⟩ (.int .i64 (t0 - 1))).setCell ⟨w.heap.size, 1, none⟩ (.int .i64 (t1 - 1))).setCell ⟨w.heap.size, 2, none⟩ (.int .u8 t3)).setCell ⟨w.heap.size, 3, none⟩ (.bool b4)).setCell ⟨w.heap.size, 4, none⟩ (.bool b8)) := q3.s0 4 (.bool b8)
    have q5 : Bs w [(w.heap.size, 45, #[.int .i64 (t0 - 1), .int .i64 (t1 - 1), .int .u8 t3, .bool b4, .bool b8, .bool b1, .int .i64 a, .int .i64 b, .int .i64 cc, .int .i64 d, .int .i64 l, .int .i64 rr, .int .i64 s, .int .i64 pt, .int .i64 pl, .int .i64 pb, .int .i64 pr, .int .i64 mt, .int .i64 ml, .int .i64 mb, .int .i64 mr, .int .u32 mz, .int .i64 lv, .bool eg, .bool st, .int .i64 su, .bool bl, .int .i64 pg, .int .i64 ps]), (g, 38, #[.int .i64 ra, .int .i64 rb, .int .i64 rc, .int .i64 re, .int .i64 rl, .int .i64 rq, .int .i64 sg]), (w.heap.size + 1 + 1, 45, (zO .u32)), (w.heap.size + 1, 84, #[.int .i64 t0, .int .i64 t1, .int .i64 t2, .int .i64 t3, .int .i64 (t4 : Int), .int .i64 (t5 : Int), .int .i64 t6, .int .i64 t7, .int .i64 (t8 : Int)])] (((((((wd5).setCell ⟨w.heap.size, 0, none⟩ (.int .i64 (t0 - 1))).setCell ⟨w.heap.size, 1, none⟩ (.int .i64 (t1 - 1))).setCell ⟨w.heap.size, 2, none⟩ (.int .u8 t3)).setCell ⟨w.heap.size, 3, none⟩ (.bool b4)).setCell ⟨w.heap.size, 4, none⟩ (.bool b8)).setCell ⟨w.heap.size, 5, none⟩ (.bool b1)) := q4.s0 5 (.bool b1)
    have q6 : Bs w [(w.heap.size, 45, #[.int .i64 (t0 - 1), .int .i64 (t1 - 1), .int .u8 t3, .bool b4, .bool b8, .bool b1, .int .i64 ra, .int .i64 b, .int .i64 cc, .int .i64 d, .int .i64 l, .int .i64 rr, .int .i64 s, .int .i64 pt, .int .i64 pl, .int .i64 pb, .int .i64 pr, .int .i64 mt, .int .i64 ml, .int .i64 mb, .int .i64 mr, .int .u32 mz, .int .i64 lv, .bool eg, .bool st, .int .i64 su, .bool bl, .int .i64 pg, .int .i64 ps]), (g, 38, #[.int .i64 ra, .int .i64 rb, .int .i64 rc, .int .i64 re, .int .i64 rl, .int .i64 rq, .int .i64 sg]), (w.heap.size + 1 + 1, 45, (zO .u32)), (w.heap.size + 1, 84, #[.int .i64 t0, .int .i64 t1, .int .i64 t2, .int .i64 t3, .int .i64 (t4 : Int), .int .i64 (t5 : Int), .int .i64 t6, .int .i64 t7, .int .i64 (t8 : Int)])] ((((((((wd5).setCell ⟨w.heap.size, 0, none⟩ (.int .i64 (t0 - 1))).setCell ⟨w.heap.size, 1, none⟩ (.int .i64 (t1 - 1))).setCell ⟨w.heap.size, 2, none⟩ (.int .u8 t3)).setCell ⟨w.heap.size, 3, none⟩ (.bool b4)).setCell ⟨w.heap.size, 4, none⟩ (.bool b8)).setCell ⟨w.heap.size, 5, none⟩ (.bool b1)).setCell ⟨w.heap.size, 6, none⟩ (.int .i64 ra)) := q5.s0 6 (.int .i64 ra)
    have q7 : Bs w [(w.heap.size, 45, #[.int .i64 (t0 - 1), .int .i64 (t1 - 1), .int .u8 t3, .bool b4, .bool b8, .bool b1, .int .i64 ra, .int .i64 rb, .int .i64 cc, .int .i64 d, .int .i64 l, .int .i64 rr, .int .i64 s, .int .i64 pt, .int .i64 pl, .int .i64 pb, .int .i64 pr, .int .i64 mt, .int .i64 ml, .int .i64 mb, .int .i64 mr, .int .u32 mz, .int .i64 lv, .bool eg, .bool st, .int .i64 su, .bool bl, .int .i64 pg, .int .i64 ps]), (g, 38, #[.int .i64 ra, .int .i64 rb, .int .i64 rc, .int .i64 re, .int .i64 rl, .int .i64 rq, .int .i64 sg]), (w.heap.size + 1 + 1, 45, (zO .u32)), (w.heap.size + 1, 84, #[.int .i64 t0, .int .i64 t1, .int .i64 t2, .int .i64 t3, .int .i64 (t4 : Int), .int .i64 (t5 : Int), .int .i64 t6, .int .i64 t7, .int .i64 (t8 : Int)])] (((((((((wd5).setCell ⟨w.heap.size, 0, none⟩ (.int .i64 (t0 - 1))).setCell ⟨w.heap.size, 1, none⟩ (.int .i64 (t1 - 1))).setCell ⟨w.heap.size, 2, none⟩ (.int .u8 t3)).setCell ⟨w.heap.size, 3, none⟩ (.bool b4)).setCell ⟨w.heap.size, 4, none⟩ (.bool b8)).setCell ⟨w.heap.size, 5, none⟩ (.bool b1)).setCell ⟨w.heap.size, 6, none⟩ (.int .i64 ra)).setCell ⟨w.heap.size, 7, none⟩ (.int .i64 rb)) := q6.s0 7 (.int .i64 rb)
    have q8 : Bs w [(w.heap.size, 45, #[.int .i64 (t0 - 1), .int .i64 (t1 - 1), .int .u8 t3, .bool b4, .bool b8, .bool b1, .int .i64 ra, .int .i64 rb, .int .i64 rc, .int .i64 d, .int .i64 l, .int .i64 rr, .int .i64 s, .int .i64 pt, .int .i64 pl, .int .i64 pb, .int .i64 pr, .int .i64 mt, .int .i64 ml, .int .i64 mb, .int .i64 mr, .int .u32 mz, .int .i64 lv, .bool eg, .bool st, .int .i64 su, .bool bl, .int .i64 pg, .int .i64 ps]), (g, 38, #[.int .i64 ra, .int .i64 rb, .int .i64 rc, .int .i64 re, .int .i64 rl, .int .i64 rq, .int .i64 sg]), (w.heap.size + 1 + 1, 45, (zO .u32)), (w.heap.size + 1, 84, #[.int .i64 t0, .int .i64 t1, .int .i64 t2, .int .i64 t3, .int .i64 (t4 : Int), .int .i64 (t5 : Int), .int .i64 t6, .int .i64 t7, .int .i64 (t8 : Int)])] ((((((((((wd5).setCell ⟨w.heap.size, 0, none⟩ (.int .i64 (t0 - 1))).setCell ⟨w.heap.size, 1, none⟩ (.int .i64 (t1 - 1))).setCell ⟨w.heap.size, 2, none⟩ (.int .u8 t3)).setCell ⟨w.heap.size, 3, none⟩ (.bool b4)).setCell ⟨w.heap.size, 4, none⟩ (.bool b8)).setCell ⟨w.heap.size, 5, none⟩ (.bool b1)).setCell ⟨w.heap.size, 6, none⟩ (.int .i64 ra)).setCell ⟨w.heap.size, 7, none⟩ (.int .i64 rb)).setCell ⟨w.heap.size, 8, none⟩ (.int .i64 rc)) := q7.s0 8 (.int .i64 rc)
    have q9 : Bs w [(w.heap.size, 45, #[.int .i64 (t0 - 1), .int .i64 (t1 - 1), .int .u8 t3, .bool b4, .bool b8, .bool b1, .int .i64 ra, .int .i64 rb, .int .i64 rc, .int .i64 re, .int .i64 l, .int .i64 rr, .int .i64 s, .int .i64 pt, .int .i64 pl, .int .i64 pb, .int .i64 pr, .int .i64 mt, .int .i64 ml, .int .i64 mb, .int .i64 mr, .int .u32 mz, .int .i64 lv, .bool eg, .bool st, .int .i64 su, .bool bl, .int .i64 pg, .int .i64 ps]), (g, 38, #[.int .i64 ra, .int .i64 rb, .int .i64 rc, .int .i64 re, .int .i64 rl, .int .i64 rq, .int .i64 sg]), (w.heap.size + 1 + 1, 45, (zO .u32)), (w.heap.size + 1, 84, #[.int .i64 t0, .int .i64 t1, .int .i64 t2, .int .i64 t3, .int .i64 (t4 : Int), .int .i64 (t5 : Int), .int .i64 t6, .int .i64 t7, .int .i64 (t8 : Int)])] (((((((((((wd5).setCell ⟨w.heap.size, 0, none⟩ (.int .i64 (t0 - 1))).setCell ⟨w.heap.size, 1, none⟩ (.int .i64 (t1 - 1))).setCell ⟨w.heap.size, 2, none⟩ (.int .u8 t3)).setCell ⟨w.heap.size, 3, none⟩ (.bool b4)).setCell ⟨w.heap.size, 4, none⟩ (.bool b8)).setCell ⟨w.heap.size, 5, none⟩ (.bool b1)).setCell ⟨w.heap.size, 6, none⟩ (.int .i64 ra)).setCell ⟨w.heap.size, 7, none⟩ (.int .i64 rb)).setCell ⟨w.heap.size, 8, none⟩ (.int .i64 rc)).setCell ⟨w.heap.size, 9, none⟩ (.int .i64 re)) := q8.s0 9 (.int .i64 re)
    have q10 : Bs w [(w.heap.size, 45, #[.int .i64 (t0 - 1), .int .i64 (t1 - 1), .int .u8 t3, .bool b4, .bool b8, .bool b1, .int .i64 ra, .int .i64 rb, .int .i64 rc, .int .i64 re, .int .i64 rl, .int .i64 rr, .int .i64 s, .int .i64 pt, .int .i64 pl, .int .i64 pb, .int .i64 pr, .int .i64 mt, .int .i64 ml, .int .i64 mb, .int .i64 mr, .int .u32 mz, .int .i64 lv, .bool eg, .bool st, .int .i64 su, .bool bl, .int .i64 pg, .int .i64 ps]), (g, 38, #[.int .i64 ra, .int .i64 rb, .int .i64 rc, .int .i64 re, .int .i64 rl, .int .i64 rq, .int .i64 sg]), (w.heap.size + 1 + 1, 45, (zO .u32)), (w.heap.size + 1, 84, #[.int .i64 t0, .int .i64 t1, .int .i64 t2, .int .i64 t3, .int .i64 (t4 : Int), .int .i64 (t5 : Int), .int .i64 t6, .int .i64 t7, .int .i64 (t8 : Int)])] ((((((((((((wd5).setCell ⟨w.heap.size, 0, none⟩ (.int .i64 (t0 - 1))).setCell ⟨w.heap.size, 1, none⟩ (.int .i64 (t1 - 1))).setCell ⟨w.heap.size, 2, none⟩ (.int .u8 t3)).setCell ⟨w.heap.size, 3, none⟩ (.bool b4)).setCell ⟨w.heap.size, 4, none⟩ (.bool b8)).setCell ⟨w.heap.size, 5, none⟩ (.bool b1)).setCell ⟨w.heap.size, 6, none⟩ (.int .i64 ra)).setCell ⟨w.heap.size, 7, none⟩ (.int .i64 rb)).setCell ⟨w.heap.size, 8, none⟩ (.int .i64 rc)).setCell ⟨w.heap.size, 9, none⟩ (.int .i64 re)).setCell ⟨w.heap.size, 10, none⟩ (.int .i64 rl)) := q9.s0 10 (.int .i64 rl)
    have q11 : Bs w [(w.heap.size, 45, #[.int .i64 (t0 - 1), .int .i64 (t1 - 1), .int .u8 t3, .bool b4, .bool b8, .bool b1, .int .i64 ra, .int .i64 rb, .int .i64 rc, .int .i64 re, .int .i64 rl, .int .i64 rq, .int .i64 s, .int .i64 pt, .int .i64 pl, .int .i64 pb, .int .i64 pr, .int .i64 mt, .int .i64 ml, .int .i64 mb, .int .i64 mr, .int .u32 mz, .int .i64 lv, .bool eg, .bool st, .int .i64 su, .bool bl, .int .i64 pg, .int .i64 ps]), (g, 38, #[.int .i64 ra, .int .i64 rb, .int .i64 rc, .int .i64 re, .int .i64 rl, .int .i64 rq, .int .i64 sg]), (w.heap.size + 1 + 1, 45, (zO .u32)), (w.heap.size + 1, 84, #[.int .i64 t0, .int .i64 t1, .int .i64 t2, .int .i64 t3, .int .i64 (t4 : Int), .int .i64 (t5 : Int), .int .i64 t6, .int .i64 t7, .int .i64 (t8 : Int)])] (((((((((((((wd5).setCell ⟨w.heap.size, 0, none⟩ (.int .i64 (t0 - 1))).setCell ⟨w.heap.size, 1, none⟩ (.int .i64 (t1 - 1))).setCell ⟨w.heap.size, 2, none⟩ (.int .u8 t3)).setCell ⟨w.heap.size, 3, none⟩ (.bool b4)).setCell ⟨w.heap.size, 4, none⟩ (.bool b8)).setCell ⟨w.heap.size, 5, none⟩ (.bool b1)).setCell ⟨w.heap.size, 6, none⟩ (.int .i64 ra)).setCell ⟨w.heap.size, 7, none⟩ (.int .i64 rb)).setCell ⟨w.heap.size, 8, none⟩ (.int .i64 rc)).setCell ⟨w.heap.size, 9, none⟩ (.int .i64 re)).setCell ⟨w.heap.size, 10, none⟩ (.int .i64 rl)).setCell ⟨w.heap.size, 11, none⟩ (.int .i64 rq)) := q10.s0 11 (.int .i64 rq)
    have q12 : Bs w [(w.heap.size, 45, #[.int .i64 (t0 - 1), .int .i64 (t1 - 1), .int .u8 t3, .bool b4, .bool b8, .bool b1, .int .i64 ra, .int .i64 rb, .int .i64 rc, .int .i64 re, .int .i64 rl, .int .i64 rq, .int .i64 sg, .int .i64 pt, .int .i64 pl, .int .i64 pb, .int .i64 pr, .int .i64 mt, .int .i64 ml, .int .i64 mb, .int .i64 mr, .int .u32 mz, .int .i64 lv, .bool eg, .bool st, .int .i64 su, .bool bl, .int .i64 pg, .int .i64 ps]), (g, 38, #[.int .i64 ra, .int .i64 rb, .int .i64 rc, .int .i64 re, .int .i64 rl, .int .i64 rq, .int .i64 sg]), (w.heap.size + 1 + 1, 45, (zO .u32)), (w.heap.size + 1, 84, #[.int .i64 t0, .int .i64 t1, .int .i64 t2, .int .i64 t3, .int .i64 (t4 : Int), .int .i64 (t5 : Int), .int .i64 t6, .int .i64 t7, .int .i64 (t8 : Int)])] ((((((((((((((wd5).setCell ⟨w.heap.size, 0, none⟩ (.int .i64 (t0 - 1))).setCell ⟨w.heap.size, 1, none⟩ (.int .i64 (t1 - 1))).setCell ⟨w.heap.size, 2, none⟩ (.int .u8 t3)).setCell ⟨w.heap.size, 3, none⟩ (.bool b4)).setCell ⟨w.heap.size, 4, none⟩ (.bool b8)).setCell ⟨w.heap.size, 5, none⟩ (.bool b1)).setCell ⟨w.heap.size, 6, none⟩ (.int .i64 ra)).setCell ⟨w.heap.size, 7, none⟩ (.int .i64 rb)).setCell ⟨w.heap.size, 8, none⟩ (.int .i64 rc)).setCell ⟨w.heap.size, 9, none⟩ (.int .i64 re)).setCell ⟨w.heap.size, 10, none⟩ (.int .i64 rl)).setCell ⟨w.heap.size, 11, none⟩ (.int .i64 rq)).setCell ⟨w.heap.size, 12, none⟩ (.int .i64 sg)) := q11.s0 12 (.int .i64 sg)
    have HQ := Lib.hid q12
    clear q0 q1 q2 q3 q4 q5 q6 q7 q8 q9 q10 q11 q12
    have w0' : IntKind.i64.wrap (t0 - 1) = t0 - 1 := IntWalk.i64_in _ (by omega)
    have w1' : IntKind.i64.wrap (t1 - 1) = t1 - 1 := IntWalk.i64_in _ (by omega)
    have w3' : IntKind.u8.wrap t3 = t3 := IntWalk.u8_in _ (by omega)
    go_upto_region 6 with fail
    go_cut [3] (fun sl wx => sl = .pointer (some ⟨w.heap.size, 0, none⟩) ∧ Bs w [(w.heap.size, 45, #[.int .i64 (t0 - 1), .int .i64 (t1 - 1), .int .u8 t3, .bool b4, .bool b8, .bool b1, .int .i64 ra, .int .i64 rb, .int .i64 rc, .int .i64 re, .int .i64 rl, .int .i64 rq, .int .i64 sg, .int .i64 pt, .int .i64 pl, .int .i64 pb, .int .i64 pr, .int .i64 mt, .int .i64 ml, .int .i64 mb, .int .i64 mr, .int .u32 mz, .int .i64 lv, .bool eg, .bool st, .int .i64 su, .bool bl, .int .i64 pg, .int .i64 ps]), (g, 38, #[.int .i64 ra, .int .i64 rb, .int .i64 rc, .int .i64 re, .int .i64 rl, .int .i64 rq, .int .i64 sg]), (w.heap.size + 1 + 1, 45, (zO .u32)), (w.heap.size + 1, 84, #[.int .i64 t0, .int .i64 t1, .int .i64 t2, .int .i64 t3, .int .i64 (t4 : Int), .int .i64 (t5 : Int), .int .i64 t6, .int .i64 t7, .int .i64 (t8 : Int)])] (wx))
    case first =>
      go_wp2_with fail
      go_meet
      exact ⟨rfl, HQ.out⟩
    case rest =>
    obtain ⟨rfl, H6⟩ := hcut
    rename World => wd6
    have HK6 := Lib.hid H6
    clear H6 HQ HK5 e0 e1 e2 e3 e4 e5 e6 c0 z0 c1 z1 c2 z2 c3 z3 c4 z4 c5 z5 c6 z6 c7 z7 c8 z8 c9 z9 c10 z10 c11 z11 c12 z12 d0 d1 d3 d4 w0' w1' w3'
    --#6
    have d2 : wd6.cell? ⟨w.heap.size + 1, 2, none⟩ = some (.int .i64 t2) := HK6.out.b3.cell 2
    have c27 : wd6.cell? ⟨w.heap.size, 27, none⟩ = some (.int .i64 pg) := HK6.out.b0.cell 27
    have z27 : wd6.frozen? ⟨w.heap.size, 27, none⟩ = false := HK6.out.b0.frozen 27
    have w2' : IntKind.i64.wrap (t2 - 1) = t2 - 1 := IntWalk.i64_in _ (by omega)
    have hq : Bs w [(w.heap.size, 45, #[.int .i64 (t0 - 1), .int .i64 (t1 - 1), .int .u8 t3, .bool b4, .bool b8, .bool b1, .int .i64 ra, .int .i64 rb, .int .i64 rc, .int .i64 re, .int .i64 rl, .int .i64 rq, .int .i64 sg, .int .i64 pt, .int .i64 pl, .int .i64 pb, .int .i64 pr, .int .i64 mt, .int .i64 ml, .int .i64 mb, .int .i64 mr, .int .u32 mz, .int .i64 lv, .bool eg, .bool st, .int .i64 su, .bool bl, .int .i64 (t2 - 1), .int .i64 ps]), (g, 38, #[.int .i64 ra, .int .i64 rb, .int .i64 rc, .int .i64 re, .int .i64 rl, .int .i64 rq, .int .i64 sg]), (w.heap.size + 1 + 1, 45, (zO .u32)), (w.heap.size + 1, 84, #[.int .i64 t0, .int .i64 t1, .int .i64 t2, .int .i64 t3, .int .i64 (t4 : Int), .int .i64 (t5 : Int), .int .i64 t6, .int .i64 t7, .int .i64 (t8 : Int)])] (wd6.setCell ⟨w.heap.size, 27, none⟩ (.int .i64 (t2 - 1))) := HK6.out.s0 27 (.int .i64 (t2 - 1))
    have HQ := Lib.hid hq
    clear hq
    go_upto_region 7 with fail
    go_cut [3] (fun sl wx => sl = .pointer (some ⟨w.heap.size, 0, none⟩) ∧ Bs w [(w.heap.size, 45, #[.int .i64 (t0 - 1), .int .i64 (t1 - 1), .int .u8 t3, .bool b4, .bool b8, .bool b1, .int .i64 ra, .int .i64 rb, .int .i64 rc, .int .i64 re, .int .i64 rl, .int .i64 rq, .int .i64 sg, .int .i64 pt, .int .i64 pl, .int .i64 pb, .int .i64 pr, .int .i64 mt, .int .i64 ml, .int .i64 mb, .int .i64 mr, .int .u32 mz, .int .i64 lv, .bool eg, .bool st, .int .i64 su, .bool bl, .int .i64 (t2 - 1), .int .i64 ps]), (g, 38, #[.int .i64 ra, .int .i64 rb, .int .i64 rc, .int .i64 re, .int .i64 rl, .int .i64 rq, .int .i64 sg]), (w.heap.size + 1 + 1, 45, (zO .u32)), (w.heap.size + 1, 84, #[.int .i64 t0, .int .i64 t1, .int .i64 t2, .int .i64 t3, .int .i64 (t4 : Int), .int .i64 (t5 : Int), .int .i64 t6, .int .i64 t7, .int .i64 (t8 : Int)])] (wx))
    case first =>
      go_wp2_with fail
      go_meet
      exact ⟨rfl, HQ.out⟩
    case rest =>
    obtain ⟨rfl, H7⟩ := hcut
    rename World => wd7
    have HK7 := Lib.hid H7
    clear H7 HQ HK6 d2 c27 z27 w2'
    --#7
    have hYf : (#[.int .i64 (t0 - 1), .int .i64 (t1 - 1), .int .u8 t3, .bool b4, .bool b8, .bool b1, .int .i64 ra, .int .i64 rb, .int .i64 rc, .int .i64 re, .int .i64 rl, .int .i64 rq, .int .i64 sg, .int .i64 pt, .int .i64 pl, .int .i64 pb, .int .i64 pr, .int .i64 mt, .int .i64 ml, .int .i64 mb, .int .i64 mr, .int .u32 mz, .int .i64 lv, .bool eg, .bool st, .int .i64 su, .bool bl, .int .i64 (t2 - 1), .int .i64 ps] : Array Value).all (·.oneCell') = true := by kernel_rfl
    have HKf := Lib.hid (HK7.out.sw2.row (#[.int .i64 (t0 - 1), .int .i64 (t1 - 1), .int .u8 t3, .bool b4, .bool b8, .bool b1, .int .i64 ra, .int .i64 rb, .int .i64 rc, .int .i64 re, .int .i64 rl, .int .i64 rq, .int .i64 sg, .int .i64 pt, .int .i64 pl, .int .i64 pb, .int .i64 pr, .int .i64 mt, .int .i64 ml, .int .i64 mb, .int .i64 mr, .int .u32 mz, .int .i64 lv, .bool eg, .bool st, .int .i64 su, .bool bl, .int .i64 (t2 - 1), .int .i64 ps]))
    go_upto_region 8 with fail
    go_step
    refine wpList_load_row rfl _ _ rfl w.heap.size rfl _ (#[.int .i64 (t0 - 1), .int .i64 (t1 - 1), .int .u8 t3, .bool b4, .bool b8, .bool b1, .int .i64 ra, .int .i64 rb, .int .i64 rc, .int .i64 re, .int .i64 rl, .int .i64 rq, .int .i64 sg, .int .i64 pt, .int .i64 pl, .int .i64 pb, .int .i64 pr, .int .i64 mt, .int .i64 ml, .int .i64 mb, .int .i64 mr, .int .u32 mz, .int .i64 lv, .bool eg, .bool st, .int .i64 su, .bool bl, .int .i64 (t2 - 1), .int .i64 ps]) (0, 0) _ HK7.out.b0 under_co rfl info_co ?_
    refine wpList_store_row rfl _ _ _ rfl (w.heap.size + 1 + 1) (#[.int .i64 (t0 - 1), .int .i64 (t1 - 1), .int .u8 t3, .bool b4, .bool b8, .bool b1, .int .i64 ra, .int .i64 rb, .int .i64 rc, .int .i64 re, .int .i64 rl, .int .i64 rq, .int .i64 sg, .int .i64 pt, .int .i64 pl, .int .i64 pb, .int .i64 pr, .int .i64 mt, .int .i64 ml, .int .i64 mb, .int .i64 mr, .int .u32 mz, .int .i64 lv, .bool eg, .bool st, .int .i64 su, .bool bl, .int .i64 (t2 - 1), .int .i64 ps]) rfl rfl _ _ HK7.out.b2 info_co rfl hYf ?_
    repeat go_step
    refine bodyPost_ret (v := .tuple #[.agg #[.int .i64 (t0 - 1), .int .i64 (t1 - 1), .int .u8 t3, .bool b4, .bool b8, .bool b1, .int .i64 ra, .int .i64 rb, .int .i64 rc, .int .i64 re, .int .i64 rl, .int .i64 rq, .int .i64 sg, .int .i64 pt, .int .i64 pl, .int .i64 pb, .int .i64 pr, .int .i64 mt, .int .i64 ml, .int .i64 mb, .int .i64 mr, .int .u32 mz, .int .i64 lv, .bool eg, .bool st, .int .i64 su, .bool bl, .int .i64 (t2 - 1), .int .i64 ps], .int .i64 0]) (results_row_tmp rfl _ _ (w.heap.size + 1 + 1) 45 (#[.int .i64 (t0 - 1), .int .i64 (t1 - 1), .int .u8 t3, .bool b4, .bool b8, .bool b1, .int .i64 ra, .int .i64 rb, .int .i64 rc, .int .i64 re, .int .i64 rl, .int .i64 rq, .int .i64 sg, .int .i64 pt, .int .i64 pl, .int .i64 pb, .int .i64 pr, .int .i64 mt, .int .i64 ml, .int .i64 mb, .int .i64 mr, .int .u32 mz, .int .i64 lv, .bool eg, .bool st, .int .i64 su, .bool bl, .int .i64 (t2 - 1), .int .i64 ps]) (0, 0) _ (.int .i64 0) rfl rfl HKf.out.b0 under_co rfl info_co) rfl ⟨by rw [hVn.out], HKf.out.bel⟩
end Go.Proofs.YtfnamfkjbkhgeaaGreatDoor

namespace Go.Proofs.YtfnamfkjbkhgeaaGreatDoor
open Go Go.RowKit

def scQ (y : Co) (f0 f1 f2 f3 f4 f5 f6 f7 f8 : ByteArray) : Nat → Int × Bool
  | 0 => rdNear 1 y.f.pb f0 | 1 => rdNear 1 y.f.pr f1 | 2 => rdNear 1 y.ps f2 | 3 => rdBits 0 31 f3 | 4 => rdBits 0 1 f4 | 5 => rdBits 0 15 f5 | 6 => rdNear 0 65535 f6 | 7 => rdNear 0 65535 f7 | _ => rdBits 0 15 f8
def scOk (q : Nat → Int × Bool) : Bool := (q 0).2 && ((q 1).2 && ((q 2).2 && ((q 3).2 && ((q 4).2 && ((q 5).2 && ((q 6).2 && ((q 7).2 && (q 8).2)))))))
def scP (y : Co) (q : Nat → Int × Bool) (f9 : ByteArray) : Value := plcV y (q 0).1 (q 1).1 (q 2).1 (q 3).1 (q 4).1.toNat (q 5).1.toNat (restP (isoY y) (q 6).1 (q 7).1 (64 + (q 8).1.toNat) f9)
def scV (y : Co) (q : Nat → Int × Bool) (f9 : ByteArray) : Value := if scOk q = true then scP y q f9 else .tuple #[coV .u32 y, .int .i64 3]
theorem near_in (lo hi : Int) (h : lo ≤ hi) (f : ByteArray) (hk : (rdNear lo hi f).2 = true) : lo ≤ (rdNear lo hi f).1 ∧ (rdNear lo hi f).1 ≤ hi := by
  unfold rdNear at hk ⊢
  split
  · simp only; unfold clipP; omega
  · rename_i h1
    split at hk
    · rename_i h2 h3; exact absurd h3 (h1 _ h2)
    · simp at hk
theorem bits_in (lo hi : Int) (h : lo ≤ hi) (f : ByteArray) (hk : (rdBits lo hi f).2 = true) : lo ≤ (rdBits lo hi f).1 ∧ (rdBits lo hi f).1 ≤ hi := by
  unfold rdBits at hk ⊢
  by_cases hs : f.size = 1
  · rw [if_pos hs] at hk ⊢
    simp only at hk ⊢
    have hq := of_decide_eq_true hk
    rw [hq]
    unfold clipP; omega
  · rw [if_neg hs] at hk
    simp at hk
/-- Where all nine numbers may stand, the last step puts the cursor where they say. -/
theorem placed_ten (y : Co) (hk : ClOk y) (f0 f1 f2 f3 f4 f5 f6 f7 f8 f9 : ByteArray) (hok : scOk (scQ y f0 f1 f2 f3 f4 f5 f6 f7 f8) = true) :
    (∃ (z : Co) (e : Int), scP y (scQ y f0 f1 f2 f3 f4 f5 f6 f7 f8) f9 = .tuple #[.agg (coC .u32 z), .int .i64 e]) ∧ ∀ W, Faces W → Blanks W → Calls Tryz.prog 36 #[coV .u32 y, .agg #[.int .i64 (rdNear 1 y.f.pb f0).1, .int .i64 (rdNear 1 y.f.pr f1).1, .int .i64 (rdNear 1 y.ps f2).1, .int .i64 (rdBits 0 31 f3).1, .int .i64 (rdBits 0 1 f4).1, .int .i64 (rdBits 0 15 f5).1, .int .i64 (rdNear 0 65535 f6).1, .int .i64 (rdNear 0 65535 f7).1, .int .i64 (rdBits 0 15 f8).1], .string f9] W fun e w' => e = .returned (scP y (scQ y f0 f1 f2 f3 f4 f5 f6 f7 f8) f9) ∧ Below W.heap.size W w' := by
  refine ⟨⟨_, _, rfl⟩, fun W hF hB => ?_⟩
  unfold scOk at hok
  simp only [scQ, Bool.and_eq_true] at hok
  obtain ⟨o0, o1, o2, o3, o4, o5, o6, o7, o8⟩ := hok
  have b0 := near_in _ _ hk.h2.1 f0 o0
  have b1 := near_in _ _ hk.h3.1 f1 o1
  have b2 := near_in _ _ hk.ps.1 f2 o2
  have b3 := bits_in _ _ (by decide) f3 o3
  have b4 := bits_in _ _ (by decide) f4 o4
  have b5 := bits_in _ _ (by decide) f5 o5
  have b8 := bits_in _ _ (by decide) f8 o8
  have h2 := hk.h2.2; have h3 := hk.h3.2; have h4 := hk.ps.2
  have H := placed_any y (rdNear 1 y.f.pb f0).1 (rdNear 1 y.f.pr f1).1 (rdNear 1 y.ps f2).1 (rdBits 0 31 f3).1 (rdBits 0 1 f4).1.toNat (rdBits 0 15 f5).1.toNat (rdNear 0 65535 f6).1 (rdNear 0 65535 f7).1 (rdBits 0 15 f8).1.toNat (by omega) (by omega) (by omega) b3 (by omega) (by omega) (by omega) f9 W hF hB
  unfold toldA at H
  rw [show (((rdBits 0 1 f4).1.toNat : Nat) : Int) = (rdBits 0 1 f4).1 by omega, show (((rdBits 0 15 f5).1.toNat : Nat) : Int) = (rdBits 0 15 f5).1 by omega, show (((rdBits 0 15 f8).1.toNat : Nat) : Int) = (rdBits 0 15 f8).1 by omega] at H
  exact H
end Go.Proofs.YtfnamfkjbkhgeaaGreatDoor

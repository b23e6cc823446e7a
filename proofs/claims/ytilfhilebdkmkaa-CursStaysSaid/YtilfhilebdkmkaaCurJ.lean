/-
  Cursors, the document's own answers: to a place; to the first column.
-/
import Derived.Test.YtilfhilebdkmkaaCurI
namespace Go.Proofs.Ytilfhilebdkmkaa
open Go Go.RowKit

theorem near_line (n a b : Int) (h : a < b) : nearC a b n = lineP n a b := by
  unfold nearC lineP clipP
  split
  · omega
  · split <;> omega
set_option maxRecDepth 100000 in
set_option maxHeartbeats 8000000 in
theorem refToB_any {f : Fr} {H W it il ib ir : Int} (h : FrOk f H W it il ib ir) (r c : Int) (wp : Bool) (K : CK) (n m : Int) (w : World) : Calls Try.prog 45 #[uV r c wp K, fV f, .int .i64 n, .int .i64 m, .bool true, .bool true] w fun e w' => e = .returned (uV (lineP n (pick K.og it 0) (pick K.og ib H)) (lineP m (pick K.og il 0) (pick K.og ir W)) false K) ∧ Below w.heap.size w w' := by
  have HAr := Lib.hid (fun V => refAreaC_any h K.og V)
  have hp := pick_in h K.og
  clear h
  have HK := Lib.hid (Bs.start3 w 27 31 27 (uC r c wp K) (fC f) zU)
  generalize pick K.og it 0 = t at *
  generalize pick K.og il 0 = l at *
  generalize pick K.og ib H = b at *
  generalize pick K.og ir W = rr at *
  have HC := Lib.hid (fun V => refBClamp_any t l b rr r c (by unfold Sm; omega) (by unfold Sm; omega) (by unfold Sm; omega) (by unfold Sm; omega) V)
  rw [show refClampT t l b rr r c = (clipP r t (b - 1), clipP c l (rr - 1)) from by
    unfold refClampT
    rw [if_neg (by unfold bEm emB; simp; omega), near_clipC _ _ _ (by omega), near_clipC _ _ _ (by omega)]] at HC
  simp only at HC
  have HN1 := Lib.hid (fun V => nearC_any t b n (by unfold In2; omega) (by unfold In2; omega) (by omega) V)
  have HN2 := Lib.hid (fun V => nearC_any l rr m (by unfold In2; omega) (by unfold In2; omega) (by omega) V)
  rw [near_line _ _ _ (by omega)] at HN1 HN2
  generalize lineP n t b = x at *
  generalize lineP m l rr = y at *
  generalize clipP r t (b - 1) = p at *
  generalize clipP c l (rr - 1) = q at *
  have HP := Lib.hid (fun V => put_any r c wp K x y V)
  clear hp
  unfold uV fV bV pV at *
  go_enter Try.func45, Try.ntmps45
  go_wp2_with fail
  refine (HAr.out _).mono ?_
  rintro e w1 ⟨rfl, hb1⟩
  have HK1 := Lib.hid (HK.out.next hb1)
  clear hb1 HK HAr
  obtain ⟨c0, c1, c2, c3, c4, c5, c6, c7, c8, c9, c10, c11, c12⟩ := cur13 HK1.out.b2
  have hz : w.heap.size + 1 + 1 < w1.heap.size := HK1.out.b0.lt
  have hz1 : w.heap.size + 1 < w1.heap.size := by omega
  have hz2 : w.heap.size < w1.heap.size := by omega
  go_wp2_with fail
  have HK2 := Lib.hid (HK1.out.alloc 29 #[.int .i64 t, .int .i64 l, .int .i64 b, .int .i64 rr])
  refine (HC.out _).mono ?_
  rintro e w2 ⟨rfl, hb2⟩
  have HK3 := Lib.hid (HK2.out.next hb2)
  have hy : w1.heap.size < w2.heap.size := HK3.out.b0.lt
  clear hb2 hz hz1 hz2 c0 c1 c2 c3 c4 c5 c6 c7 c8 c9 c10 c11 c12
  obtain ⟨b0, b1, b2, b3, _⟩ := blk4 HK3.out.b0
  obtain ⟨c0, c1, c2, c3, c4, c5, c6, c7, c8, c9, c10, c11, c12⟩ := cur13 HK3.out.b3
  have hz : w.heap.size + 1 + 1 < w2.heap.size := HK3.out.b1.lt
  have hz1 : w.heap.size + 1 < w2.heap.size := by omega
  have hz2 : w.heap.size < w2.heap.size := by omega
  go_wp2_with fail
  refine (HN1.out _).mono ?_
  rintro e w3 ⟨rfl, rfl⟩
  go_wp2_with fail
  refine (HN2.out _).mono ?_
  rintro e w3 ⟨rfl, rfl⟩
  go_wp2_with fail
  have HK4 := Lib.hid (HK3.out.alloc 41 #[.int .i64 x, .int .i64 y])
  refine (HP.out _).mono ?_
  rintro e w5 ⟨rfl, hb5⟩
  have HK7 := Lib.hid (HK4.out.next hb5)
  clear hb5 b0 b1 b2 b3 hz hz1 hz2 hy c0 c1 c2 c3 c4 c5 c6 c7 c8 c9 c10 c11 c12
  obtain ⟨c0, c1, c2, c3, c4, c5, c6, c7, c8, c9, c10, c11, c12⟩ := cur13 HK7.out.b2
  obtain ⟨z0, z1, z2, z3, z4, z5, z6, z7, z8, z9, z10, z11, z12⟩ := fro13 HK7.out.b2
  go_wp2_with fail
  have HK8 := HK7.out.tl.tl.p0 (.int .i64 x) (.int .i64 y) (.int .u8 K.rd) (.bool K.kp) (.bool false) (.bool K.og) (.int .i64 K.a) (.int .i64 K.b) (.int .i64 K.c) (.int .i64 K.d) (.int .i64 K.l) (.int .i64 K.r) (.int .i64 K.s)
  unfold put13 at HK8
  obtain ⟨e0, e1, e2, e3, e4, e5, e6, e7, e8, e9, e10, e11, e12⟩ := cur13 HK8.b0
  exact bodyPost_ret (v := .agg #[.int .i64 x, .int .i64 y, .int .u8 K.rd, .bool K.kp, .bool false, .bool K.og, .int .i64 K.a, .int .i64 K.b, .int .i64 K.c, .int .i64 K.d, .int .i64 K.l, .int .i64 K.r, .int .i64 K.s]) (by simp [results, Try.results45, go_sem, e0, e1, e2, e3, e4, e5, e6, e7, e8, e9, e10, e11, e12]) rfl ⟨rfl, HK8.bel⟩
set_option maxRecDepth 100000 in
set_option maxHeartbeats 8000000 in
theorem refToR_any {f : Fr} {H W it il ib ir : Int} (h : FrOk f H W it il ib ir) (r c : Int) (wp : Bool) (K : CK) (n m : Int) (w : World) : Calls Try.prog 45 #[uV r c wp K, fV f, .int .i64 n, .int .i64 m, .bool true, .bool false] w fun e w' => e = .returned (uV (lineP n (pick K.og it 0) (pick K.og ib H)) (clipP c (pick K.og il 0) (pick K.og ir W - 1)) false K) ∧ Below w.heap.size w w' := by
  have HAr := Lib.hid (fun V => refAreaC_any h K.og V)
  have hp := pick_in h K.og
  clear h
  have HK := Lib.hid (Bs.start3 w 27 31 27 (uC r c wp K) (fC f) zU)
  generalize pick K.og it 0 = t at *
  generalize pick K.og il 0 = l at *
  generalize pick K.og ib H = b at *
  generalize pick K.og ir W = rr at *
  have HC := Lib.hid (fun V => refBClamp_any t l b rr r c (by unfold Sm; omega) (by unfold Sm; omega) (by unfold Sm; omega) (by unfold Sm; omega) V)
  rw [show refClampT t l b rr r c = (clipP r t (b - 1), clipP c l (rr - 1)) from by
    unfold refClampT
    rw [if_neg (by unfold bEm emB; simp; omega), near_clipC _ _ _ (by omega), near_clipC _ _ _ (by omega)]] at HC
  simp only at HC
  have HN1 := Lib.hid (fun V => nearC_any t b n (by unfold In2; omega) (by unfold In2; omega) (by omega) V)
  have HN2 := Lib.hid (fun V => nearC_any l rr m (by unfold In2; omega) (by unfold In2; omega) (by omega) V)
  rw [near_line _ _ _ (by omega)] at HN1 HN2
  generalize lineP n t b = x at *
  generalize lineP m l rr = y at *
  generalize clipP r t (b - 1) = p at *
  generalize clipP c l (rr - 1) = q at *
  have HP := Lib.hid (fun V => put_any r c wp K x q V)
  clear hp
  unfold uV fV bV pV at *
  go_enter Try.func45, Try.ntmps45
  go_wp2_with fail
  refine (HAr.out _).mono ?_
  rintro e w1 ⟨rfl, hb1⟩
  have HK1 := Lib.hid (HK.out.next hb1)
  clear hb1 HK HAr
  obtain ⟨c0, c1, c2, c3, c4, c5, c6, c7, c8, c9, c10, c11, c12⟩ := cur13 HK1.out.b2
  have hz : w.heap.size + 1 + 1 < w1.heap.size := HK1.out.b0.lt
  have hz1 : w.heap.size + 1 < w1.heap.size := by omega
  have hz2 : w.heap.size < w1.heap.size := by omega
  go_wp2_with fail
  have HK2 := Lib.hid (HK1.out.alloc 29 #[.int .i64 t, .int .i64 l, .int .i64 b, .int .i64 rr])
  refine (HC.out _).mono ?_
  rintro e w2 ⟨rfl, hb2⟩
  have HK3 := Lib.hid (HK2.out.next hb2)
  have hy : w1.heap.size < w2.heap.size := HK3.out.b0.lt
  clear hb2 hz hz1 hz2 c0 c1 c2 c3 c4 c5 c6 c7 c8 c9 c10 c11 c12
  obtain ⟨b0, b1, b2, b3, _⟩ := blk4 HK3.out.b0
  obtain ⟨c0, c1, c2, c3, c4, c5, c6, c7, c8, c9, c10, c11, c12⟩ := cur13 HK3.out.b3
  have hz : w.heap.size + 1 + 1 < w2.heap.size := HK3.out.b1.lt
  have hz1 : w.heap.size + 1 < w2.heap.size := by omega
  have hz2 : w.heap.size < w2.heap.size := by omega
  go_wp2_with fail
  refine (HN1.out _).mono ?_
  rintro e w3 ⟨rfl, rfl⟩
  go_wp2_with fail
  have HK4 := Lib.hid (HK3.out.alloc 41 #[.int .i64 x, .int .i64 q])
  refine (HP.out _).mono ?_
  rintro e w5 ⟨rfl, hb5⟩
  have HK7 := Lib.hid (HK4.out.next hb5)
  clear hb5 b0 b1 b2 b3 hz hz1 hz2 hy c0 c1 c2 c3 c4 c5 c6 c7 c8 c9 c10 c11 c12
  obtain ⟨c0, c1, c2, c3, c4, c5, c6, c7, c8, c9, c10, c11, c12⟩ := cur13 HK7.out.b2
  obtain ⟨z0, z1, z2, z3, z4, z5, z6, z7, z8, z9, z10, z11, z12⟩ := fro13 HK7.out.b2
  go_wp2_with fail
  have HK8 := HK7.out.tl.tl.p0 (.int .i64 x) (.int .i64 q) (.int .u8 K.rd) (.bool K.kp) (.bool false) (.bool K.og) (.int .i64 K.a) (.int .i64 K.b) (.int .i64 K.c) (.int .i64 K.d) (.int .i64 K.l) (.int .i64 K.r) (.int .i64 K.s)
  unfold put13 at HK8
  obtain ⟨e0, e1, e2, e3, e4, e5, e6, e7, e8, e9, e10, e11, e12⟩ := cur13 HK8.b0
  exact bodyPost_ret (v := .agg #[.int .i64 x, .int .i64 q, .int .u8 K.rd, .bool K.kp, .bool false, .bool K.og, .int .i64 K.a, .int .i64 K.b, .int .i64 K.c, .int .i64 K.d, .int .i64 K.l, .int .i64 K.r, .int .i64 K.s]) (by simp [results, Try.results45, go_sem, e0, e1, e2, e3, e4, e5, e6, e7, e8, e9, e10, e11, e12]) rfl ⟨rfl, HK8.bel⟩
set_option maxRecDepth 100000 in
set_option maxHeartbeats 8000000 in
theorem refToC_any {f : Fr} {H W it il ib ir : Int} (h : FrOk f H W it il ib ir) (r c : Int) (wp : Bool) (K : CK) (n m : Int) (w : World) : Calls Try.prog 45 #[uV r c wp K, fV f, .int .i64 n, .int .i64 m, .bool false, .bool true] w fun e w' => e = .returned (uV (clipP r (pick K.og it 0) (pick K.og ib H - 1)) (lineP m (pick K.og il 0) (pick K.og ir W)) false K) ∧ Below w.heap.size w w' := by
  have HAr := Lib.hid (fun V => refAreaC_any h K.og V)
  have hp := pick_in h K.og
  clear h
  have HK := Lib.hid (Bs.start3 w 27 31 27 (uC r c wp K) (fC f) zU)
  generalize pick K.og it 0 = t at *
  generalize pick K.og il 0 = l at *
  generalize pick K.og ib H = b at *
  generalize pick K.og ir W = rr at *
  have HC := Lib.hid (fun V => refBClamp_any t l b rr r c (by unfold Sm; omega) (by unfold Sm; omega) (by unfold Sm; omega) (by unfold Sm; omega) V)
  rw [show refClampT t l b rr r c = (clipP r t (b - 1), clipP c l (rr - 1)) from by
    unfold refClampT
    rw [if_neg (by unfold bEm emB; simp; omega), near_clipC _ _ _ (by omega), near_clipC _ _ _ (by omega)]] at HC
  simp only at HC
  have HN1 := Lib.hid (fun V => nearC_any t b n (by unfold In2; omega) (by unfold In2; omega) (by omega) V)
  have HN2 := Lib.hid (fun V => nearC_any l rr m (by unfold In2; omega) (by unfold In2; omega) (by omega) V)
  rw [near_line _ _ _ (by omega)] at HN1 HN2
  generalize lineP n t b = x at *
  generalize lineP m l rr = y at *
  generalize clipP r t (b - 1) = p at *
  generalize clipP c l (rr - 1) = q at *
  have HP := Lib.hid (fun V => put_any r c wp K p y V)
  clear hp
  unfold uV fV bV pV at *
  go_enter Try.func45, Try.ntmps45
  go_wp2_with fail
  refine (HAr.out _).mono ?_
  rintro e w1 ⟨rfl, hb1⟩
  have HK1 := Lib.hid (HK.out.next hb1)
  clear hb1 HK HAr
  obtain ⟨c0, c1, c2, c3, c4, c5, c6, c7, c8, c9, c10, c11, c12⟩ := cur13 HK1.out.b2
  have hz : w.heap.size + 1 + 1 < w1.heap.size := HK1.out.b0.lt
  have hz1 : w.heap.size + 1 < w1.heap.size := by omega
  have hz2 : w.heap.size < w1.heap.size := by omega
  go_wp2_with fail
  have HK2 := Lib.hid (HK1.out.alloc 29 #[.int .i64 t, .int .i64 l, .int .i64 b, .int .i64 rr])
  refine (HC.out _).mono ?_
  rintro e w2 ⟨rfl, hb2⟩
  have HK3 := Lib.hid (HK2.out.next hb2)
  have hy : w1.heap.size < w2.heap.size := HK3.out.b0.lt
  clear hb2 hz hz1 hz2 c0 c1 c2 c3 c4 c5 c6 c7 c8 c9 c10 c11 c12
  obtain ⟨b0, b1, b2, b3, _⟩ := blk4 HK3.out.b0
  obtain ⟨c0, c1, c2, c3, c4, c5, c6, c7, c8, c9, c10, c11, c12⟩ := cur13 HK3.out.b3
  have hz : w.heap.size + 1 + 1 < w2.heap.size := HK3.out.b1.lt
  have hz1 : w.heap.size + 1 < w2.heap.size := by omega
  have hz2 : w.heap.size < w2.heap.size := by omega
  go_wp2_with fail
  refine (HN2.out _).mono ?_
  rintro e w3 ⟨rfl, rfl⟩
  go_wp2_with fail
  have HK4 := Lib.hid (HK3.out.alloc 41 #[.int .i64 p, .int .i64 y])
  refine (HP.out _).mono ?_
  rintro e w5 ⟨rfl, hb5⟩
  have HK7 := Lib.hid (HK4.out.next hb5)
  clear hb5 b0 b1 b2 b3 hz hz1 hz2 hy c0 c1 c2 c3 c4 c5 c6 c7 c8 c9 c10 c11 c12
  obtain ⟨c0, c1, c2, c3, c4, c5, c6, c7, c8, c9, c10, c11, c12⟩ := cur13 HK7.out.b2
  obtain ⟨z0, z1, z2, z3, z4, z5, z6, z7, z8, z9, z10, z11, z12⟩ := fro13 HK7.out.b2
  go_wp2_with fail
  have HK8 := HK7.out.tl.tl.p0 (.int .i64 p) (.int .i64 y) (.int .u8 K.rd) (.bool K.kp) (.bool false) (.bool K.og) (.int .i64 K.a) (.int .i64 K.b) (.int .i64 K.c) (.int .i64 K.d) (.int .i64 K.l) (.int .i64 K.r) (.int .i64 K.s)
  unfold put13 at HK8
  obtain ⟨e0, e1, e2, e3, e4, e5, e6, e7, e8, e9, e10, e11, e12⟩ := cur13 HK8.b0
  exact bodyPost_ret (v := .agg #[.int .i64 p, .int .i64 y, .int .u8 K.rd, .bool K.kp, .bool false, .bool K.og, .int .i64 K.a, .int .i64 K.b, .int .i64 K.c, .int .i64 K.d, .int .i64 K.l, .int .i64 K.r, .int .i64 K.s]) (by simp [results, Try.results45, go_sem, e0, e1, e2, e3, e4, e5, e6, e7, e8, e9, e10, e11, e12]) rfl ⟨rfl, HK8.bel⟩
end Go.Proofs.Ytilfhilebdkmkaa

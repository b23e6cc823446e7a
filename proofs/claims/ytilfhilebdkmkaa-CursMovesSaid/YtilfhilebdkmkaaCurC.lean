/-
  Cursors: put to a place, brought to a box, within a width; numbers of a move; pages and margins.
-/
import Derived.Test.YtilfhilebdkmkaaCurB
namespace Go.Proofs.Ytilfhilebdkmkaa
open Go Go.RowKit
set_option maxRecDepth 100000 in
set_option maxHeartbeats 8000000 in
theorem put_any (r c : Int) (wp : Bool) (K : CK) (p q : Int) (w : World) : Calls Try.prog 50 #[uV r c wp K, pV p q] w fun e w' => e = .returned (uV p q false K) ∧ Below w.heap.size w w' := by
  have HK := Lib.hid (Bs.start3 w 27 41 27 (uC r c wp K) (sC p q) zU)
  unfold uV pV
  go_enter Try.func50, Try.ntmps50
  go_wp2_with fail
  exact bodyPost_ret (v := .agg #[.int .i64 p, .int .i64 q, .int .u8 K.rd, .bool K.kp, .bool false, .bool K.og, .int .i64 K.a, .int .i64 K.b, .int .i64 K.c, .int .i64 K.d, .int .i64 K.l, .int .i64 K.r, .int .i64 K.s]) (by simp [results, Try.results50, go_sem]) rfl ⟨rfl, (by go_grown)⟩
set_option maxRecDepth 100000 in
set_option maxHeartbeats 8000000 in
theorem moving_any (r c : Int) (wp : Bool) (K : CK) (t l b rr : Int) (ht : Sm t) (hl : Sm l) (hb0 : Sm b) (hr : Sm rr) (h1 : t < b) (h2 : l < rr) (w : World) :
    Calls Try.prog 52 #[uV r c wp K, bV t l b rr] w fun e w' => e = .returned (uV (clipP r t (b - 1)) (clipP c l (rr - 1)) false K) ∧ Below w.heap.size w w' := by
  have HC := Lib.hid (fun W => bclamp_any t l b rr r c ht hl hb0 hr W)
  rw [show clampT t l b rr r c = (clipP r t (b - 1), clipP c l (rr - 1)) from if_neg (by unfold bEm emB; simp; omega)] at HC
  have HK := Lib.hid (Bs.start3 w 44 29 44 (uC r c wp K) (bC t l b rr) zU)
  simp only at HC
  generalize clipP r t (b - 1) = p at *
  generalize clipP c l (rr - 1) = q at *
  clear ht hl hb0 hr h1 h2
  unfold uV pV bV at *
  go_enter Try.func52, Try.ntmps52
  go_wp2_with fail
  refine (HC.out _).mono ?_
  rintro e w1 ⟨rfl, hb1⟩
  have HK1 := Lib.hid (HK.out.next hb1).sw2
  clear hb1 HK HC
  obtain ⟨c0, c1, c2, c3, c4, c5, c6, c7, c8, c9, c10, c11, c12⟩ := cur13 HK1.out.b0
  obtain ⟨z0, z1, z2, z3, z4, z5, z6, z7, z8, z9, z10, z11, z12⟩ := fro13 HK1.out.b0
  obtain ⟨x0, x1, x2, x3, x4, x5, x6, x7, x8, x9, x10, x11, x12⟩ := cur13 HK1.out.b1
  obtain ⟨y0, y1, y2, y3, y4, y5, y6, y7, y8, y9, y10, y11, y12⟩ := fro13 HK1.out.b1
  go_wp2_with fail
  have HK2 := ((HK1.out.s0 0 (.int .i64 p)).s0 1 (.int .i64 q)).s0 4 (.bool false)
  have HK3 := Bs.p0 HK2.sw1 (.int .i64 p) (.int .i64 q) (.int .u8 K.rd) (.bool K.kp) (.bool false) (.bool K.og) (.int .i64 K.a) (.int .i64 K.b) (.int .i64 K.c) (.int .i64 K.d) (.int .i64 K.l) (.int .i64 K.r) (.int .i64 K.s)
  unfold put13 at HK3
  obtain ⟨e0, e1, e2, e3, e4, e5, e6, e7, e8, e9, e10, e11, e12⟩ := cur13 HK3.b0
  clear HK2
  exact bodyPost_ret (v := .agg #[.int .i64 p, .int .i64 q, .int .u8 K.rd, .bool K.kp, .bool false, .bool K.og, .int .i64 K.a, .int .i64 K.b, .int .i64 K.c, .int .i64 K.d, .int .i64 K.l, .int .i64 K.r, .int .i64 K.s]) (by simp [results, Try.results52, go_sem, e0, e1, e2, e3, e4, e5, e6, e7, e8, e9, e10, e11, e12]) rfl ⟨rfl, HK3.bel⟩
end Go.Proofs.Ytilfhilebdkmkaa

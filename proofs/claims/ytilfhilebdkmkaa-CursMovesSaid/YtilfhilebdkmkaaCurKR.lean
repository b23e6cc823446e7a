/-
  Cursors, the document's own answers: by steps, one of the four ways.
-/
import Derived.Test.YtilfhilebdkmkaaCurK0
namespace Go.Proofs.Ytilfhilebdkmkaa
open Go Go.RowKit
set_option maxRecDepth 100000 in
set_option maxHeartbeats 8000000 in
theorem moveRight_any {f : Fr} {H W it il ib ir : Int} (h : FrOk f H W it il ib ir) (r c : Int) (wp : Bool) (K : CK) (n : Int) (w : World) : Calls Try.prog 44 #[uV r c wp K, fV f, .int .i64 n, .int .i64 0, .int .i64 1] w fun e w' => e = .returned (uV (clipP r 0 (H - 1)) (moreP (clipP c 0 (W - 1)) n (W - 1) (ir - 1)) false K) ∧ Below w.heap.size w w' := by
  have HO := Lib.hid (fun V => on_any h r c wp K V)
  have HWh := Lib.hid (fun V => refWholeC_any h V)
  have HI := Lib.hid (fun V => refInnerC_any h V)
  have hs := h.hH; have hs2 := h.hW; have hi := h.hi; have hj := h.hj
  have hp := clip_in r H hs
  have hq := clip_in c W hs2
  have HK := Lib.hid (Bs.start3 w 27 31 27 (uC r c wp K) (fC f) zU)
  have HIn := Lib.hid (fun x y V => refIn_any 0 0 H W x y V)
  clear h
  generalize clipP r 0 (H - 1) = p at *
  generalize clipP c 0 (W - 1) = q at *
  obtain ⟨S, hS, hSp, hst, hen, hfin⟩ := more_steps q n ir W (by omega) (by omega) (by omega)
  generalize moreP q n (W - 1) (ir - 1) = res at *
  have HS := Lib.hid (show ∀ k : Nat, k ≤ S → ∃ y : Int, y = q + k ∧ 0 ≤ y ∧ y ≤ 2000 from fun k hk => ⟨_, rfl, by omega, by omega⟩)
  have HT := Lib.hid (show ∀ k : Nat, k < S → ∀ y : Int, y = q + k → (y == ir - 1) = false ∧ inB 0 0 H W p (y + 1) = true from fun k hk y hy => by
    obtain ⟨g1, g2⟩ := hst k hk
    have := hy
    refine ⟨by rw [hy]; exact g1, ?_⟩
    unfold inB hasB
    simp
    omega)
  have HE := Lib.hid (show ∀ y : Int, y = q + S → (y == ir - 1) = true ∨ ((y == ir - 1) = false ∧ inB 0 0 H W p (y + 1) = false) from fun y hy => by
    rcases hen with g | ⟨g, g2⟩
    · exact .inl (by rw [hy]; exact g)
    · refine .inr ⟨by rw [hy]; exact g, ?_⟩
      unfold inB hasB
      simp
      omega)
  have HF := Lib.hid hfin
  have HSl := Lib.hid hS
  have s0 : IntKind.i64.wrap p = p := IntWalk.i64_in _ (by omega)
  have s1 : IntKind.i64.wrap q = q := IntWalk.i64_in _ (by omega)
  have s2 : IntKind.i64.wrap (ir - 1) = ir - 1 := IntWalk.i64_in _ (by omega)
  clear hs hs2 hi hj hp hq hSp hst hen hfin hS
  unfold uV fV bV at *
  go_enter Try.func44, Try.ntmps44
  go_wp2_with fail
  refine (HO.out _).mono ?_
  rintro e w1 ⟨rfl, hb1⟩
  have HK1 := Lib.hid (HK.out.next hb1).sw2
  clear hb1 HK HO
  obtain ⟨c0, c1, c2, c3, c4, c5, c6, c7, c8, c9, c10, c11, c12⟩ := cur13 HK1.out.b0
  obtain ⟨z0, z1, z2, z3, z4, z5, z6, z7, z8, z9, z10, z11, z12⟩ := fro13 HK1.out.b0
  have HK1b := HK1.out.p0 (.int .i64 p) (.int .i64 q) (.int .u8 K.rd) (.bool K.kp) (.bool false) (.bool K.og) (.int .i64 K.a) (.int .i64 K.b) (.int .i64 K.c) (.int .i64 K.d) (.int .i64 K.l) (.int .i64 K.r) (.int .i64 K.s)
  unfold put13 at HK1b
  replace HK1b := Lib.hid HK1b
  have f8 := fra8 HK1b.out.b2
  obtain ⟨a0, a1, a2, a3, a4, a5, a6, a7⟩ := f8
  go_upto_region 2 with fail
  refine world_gen (fun V => Bs w [(w.heap.size, 27, #[.int .i64 p, .int .i64 q, .int .u8 K.rd, .bool K.kp, .bool false, .bool K.og, .int .i64 K.a, .int .i64 K.b, .int .i64 K.c, .int .i64 K.d, .int .i64 K.l, .int .i64 K.r, .int .i64 K.s]), (w.heap.size + 1 + 1, 27, zU), (w.heap.size + 1, 31, fC f)] V) HK1b.out ?_
  clear HK1b HK1 c0 c1 c2 c3 c4 c5 c6 c7 c8 c9 c10 c11 c12 z0 z1 z2 z3 z4 z5 z6 z7 z8 z9 z10 z11 z12 a0 a1 a2 a3 a4 a5 a6 a7
  intro V HV
  replace HV := Lib.hid HV
  obtain ⟨a0, a1, a2, a3, a4, a5, a6, a7⟩ := fra8 HV.out.b2
  go_wp2_with fail
  refine (HI.out _).mono ?_
  rintro e w2 ⟨rfl, hb2⟩
  have HK2 := Lib.hid (HV.out.next hb2)
  clear hb2 a0 a1 a2 a3 a4 a5 a6 a7 HV
  obtain ⟨a0, a1, a2, a3, a4, a5, a6, a7⟩ := fra8 HK2.out.b2
  have hz : w.heap.size + 1 + 1 < w2.heap.size := HK2.out.b1.lt
  have hz1 : w.heap.size + 1 < w2.heap.size := by omega
  have hz2 : w.heap.size < w2.heap.size := by omega
  go_wp2_with fail
  have HK2b := Lib.hid (HK2.out.alloc 29 #[.int .i64 it, .int .i64 il, .int .i64 ib, .int .i64 ir])
  refine (HWh.out _).mono ?_
  rintro e w3 ⟨rfl, hb3⟩
  have HK3 := Lib.hid (HK2b.out.next hb3)
  have hy : w2.heap.size < w3.heap.size := HK3.out.b0.lt
  clear hb3 a0 a1 a2 a3 a4 a5 a6 a7 hz hz1 hz2
  have HK4 := Lib.hid (HK3.out.alloc 29 #[.int .i64 0, .int .i64 0, .int .i64 H, .int .i64 W]).sw2
  go_upto_region 4 with fail
  refine world_gen (fun V => Bs w [(w.heap.size, 27, #[.int .i64 p, .int .i64 q, .int .u8 K.rd, .bool K.kp, .bool false, .bool K.og, .int .i64 K.a, .int .i64 K.b, .int .i64 K.c, .int .i64 K.d, .int .i64 K.l, .int .i64 K.r, .int .i64 K.s]), (w3.heap.size, 29, #[.int .i64 0, .int .i64 0, .int .i64 H, .int .i64 W]), (w2.heap.size, 29, #[.int .i64 it, .int .i64 il, .int .i64 ib, .int .i64 ir]), (w.heap.size + 1 + 1, 27, zU), (w.heap.size + 1, 31, fC f)] V) HK4.out ?_
  clear HK4 HK3 HK2b HK2 hy
  intro V HV
  replace HV := Lib.hid HV
  go_wp2_with fail
  --#1
  go_loopw [13] (fun i wr => ∃ (k : Nat) (y : Int), k ≤ S ∧ (k : Int) ≤ max n 0 ∧ i = .int .i64 k ∧ y = q + k ∧ Bs w [(w.heap.size, 27, #[.int .i64 p, .int .i64 y, .int .u8 K.rd, .bool K.kp, .bool false, .bool K.og, .int .i64 K.a, .int .i64 K.b, .int .i64 K.c, .int .i64 K.d, .int .i64 K.l, .int .i64 K.r, .int .i64 K.s]), (w3.heap.size, 29, #[.int .i64 0, .int .i64 0, .int .i64 H, .int .i64 W]), (w2.heap.size, 29, #[.int .i64 it, .int .i64 il, .int .i64 ib, .int .i64 ir]), (w.heap.size + 1 + 1, 27, zU), (w.heap.size + 1, 31, fC f)] wr) (fun i _ => 2001 - (intOf i).toNat)
  case atStart => exact ⟨0, q, by omega, by omega, rfl, by simp, HV.out⟩
  case round =>
    obtain ⟨k, y, hk, hkn, rfl, hy, hbs⟩ := hrel
    have HB := Lib.hid hbs
    clear hbs HV
    have hb := HSl.out
    by_cases hlt : (k : Int) < n
    · have h6 : (k : Int) < 1000000 := by omega
      obtain ⟨c0, c1, c2, c3, c4, c5, c6, c7, c8, c9, c10, c11, c12⟩ := cur13 HB.out.b0
      obtain ⟨m0, m1, m2, m3, _⟩ := blk4 HB.out.b2
      obtain ⟨w0, w1', w2', w3', _⟩ := blk4 HB.out.b1
      have e1 : IntKind.i64.wrap (y + 1) = y + 1 := by obtain ⟨y', e, h1, h2⟩ := HS.out k hk; exact IntWalk.i64_in _ (by omega)
      by_cases hS2 : k < S
      · obtain ⟨t1, t2⟩ := HT.out k hS2 y hy
        have HY := Lib.hid (fun V => HIn.out p (y + 1) V)
        rw [t2] at HY
        have HYy := Lib.hid hy
        clear t2 hy
        --#2
        go_wp2_with fail
        --#3
        refine (HY.out _).mono ?_
        rintro e w6 ⟨rfl, hb6⟩
        have HB6 := Lib.hid (HB.out.next hb6)
        clear hb6 c0 c1 c2 c3 c4 c5 c6 c7 c8 c9 c10 c11 c12 m0 m1 m2 m3 w0 w1' w2' w3'
        obtain ⟨c0, c1, c2, c3, c4, c5, c6, c7, c8, c9, c10, c11, c12⟩ := cur13 HB6.out.b0
        obtain ⟨z0, z1, z2, z3, z4, z5, z6, z7, z8, z9, z10, z11, z12⟩ := fro13 HB6.out.b0
        have HB7 := Lib.hid ((HB6.out.s0 0 (.int .i64 p)).s0 1 (.int .i64 (y + 1)))
        go_wp2_with fail
        go_roundw
        case rel => exact ⟨k + 1, y + 1, by omega, by omega, by go_num, by have := HYy.out; omega, HB7.out⟩
        case measure => simp [intOf]; omega
      · obtain rfl : k = S := by omega
        have hR : Hid (res = y) := Lib.hid (by rw [HF.out k hk (.inr ⟨rfl, hlt⟩), hy])
        rcases HE.out y hy with t1 | ⟨t1, t2⟩
        · clear hy
          obtain ⟨x0, x1, x2, x3, x4, x5, x6, x7, x8, x9, x10, x11, x12⟩ := cur13 HB.out.b3
          obtain ⟨z0, z1, z2, z3, z4, z5, z6, z7, z8, z9, z10, z11, z12⟩ := fro13 HB.out.b3
          --#4
          go_wp2_with fail
          have HB8 := HB.out.sw3.p0 (.int .i64 p) (.int .i64 y) (.int .u8 K.rd) (.bool K.kp) (.bool false) (.bool K.og) (.int .i64 K.a) (.int .i64 K.b) (.int .i64 K.c) (.int .i64 K.d) (.int .i64 K.l) (.int .i64 K.r) (.int .i64 K.s)
          unfold put13 at HB8
          obtain ⟨e0, e1, e2, e3, e4, e5, e6, e7, e8, e9, e10, e11, e12⟩ := cur13 HB8.b0
          rw [hR.out]
          exact bodyPost_ret (v := .agg #[.int .i64 p, .int .i64 y, .int .u8 K.rd, .bool K.kp, .bool false, .bool K.og, .int .i64 K.a, .int .i64 K.b, .int .i64 K.c, .int .i64 K.d, .int .i64 K.l, .int .i64 K.r, .int .i64 K.s]) (by simp [results, Try.results44, go_sem, e0, e1, e2, e3, e4, e5, e6, e7, e8, e9, e10, e11, e12]) rfl ⟨rfl, HB8.bel⟩
        · have HY := Lib.hid (fun V => HIn.out p (y + 1) V)
          rw [t2] at HY
          clear t2 hy
          go_wp2_with fail
          refine (HY.out _).mono ?_
          rintro e w6 ⟨rfl, hb6⟩
          have HB6 := Lib.hid (HB.out.next hb6)
          clear hb6 c0 c1 c2 c3 c4 c5 c6 c7 c8 c9 c10 c11 c12 m0 m1 m2 m3 w0 w1' w2' w3'
          obtain ⟨c0, c1, c2, c3, c4, c5, c6, c7, c8, c9, c10, c11, c12⟩ := cur13 HB6.out.b0
          obtain ⟨x0, x1, x2, x3, x4, x5, x6, x7, x8, x9, x10, x11, x12⟩ := cur13 HB6.out.b3
          obtain ⟨z0, z1, z2, z3, z4, z5, z6, z7, z8, z9, z10, z11, z12⟩ := fro13 HB6.out.b3
          go_wp2_with fail
          have HB8 := HB6.out.sw3.p0 (.int .i64 p) (.int .i64 y) (.int .u8 K.rd) (.bool K.kp) (.bool false) (.bool K.og) (.int .i64 K.a) (.int .i64 K.b) (.int .i64 K.c) (.int .i64 K.d) (.int .i64 K.l) (.int .i64 K.r) (.int .i64 K.s)
          unfold put13 at HB8
          obtain ⟨e0, e1, e2, e3, e4, e5, e6, e7, e8, e9, e10, e11, e12⟩ := cur13 HB8.b0
          rw [hR.out]
          exact bodyPost_ret (v := .agg #[.int .i64 p, .int .i64 y, .int .u8 K.rd, .bool K.kp, .bool false, .bool K.og, .int .i64 K.a, .int .i64 K.b, .int .i64 K.c, .int .i64 K.d, .int .i64 K.l, .int .i64 K.r, .int .i64 K.s]) (by simp [results, Try.results44, go_sem, e0, e1, e2, e3, e4, e5, e6, e7, e8, e9, e10, e11, e12]) rfl ⟨rfl, HB8.bel⟩
    · have hR : Hid (res = y) := Lib.hid (by rw [HF.out k hk (.inl (by omega)), hy])
      clear hy
      obtain ⟨c0, c1, c2, c3, c4, c5, c6, c7, c8, c9, c10, c11, c12⟩ := cur13 HB.out.b0
      obtain ⟨x0, x1, x2, x3, x4, x5, x6, x7, x8, x9, x10, x11, x12⟩ := cur13 HB.out.b3
      obtain ⟨z0, z1, z2, z3, z4, z5, z6, z7, z8, z9, z10, z11, z12⟩ := fro13 HB.out.b3
      go_wp2_with fail
      have HB8 := HB.out.sw3.p0 (.int .i64 p) (.int .i64 y) (.int .u8 K.rd) (.bool K.kp) (.bool false) (.bool K.og) (.int .i64 K.a) (.int .i64 K.b) (.int .i64 K.c) (.int .i64 K.d) (.int .i64 K.l) (.int .i64 K.r) (.int .i64 K.s)
      unfold put13 at HB8
      obtain ⟨e0, e1, e2, e3, e4, e5, e6, e7, e8, e9, e10, e11, e12⟩ := cur13 HB8.b0
      rw [hR.out]
      exact bodyPost_ret (v := .agg #[.int .i64 p, .int .i64 y, .int .u8 K.rd, .bool K.kp, .bool false, .bool K.og, .int .i64 K.a, .int .i64 K.b, .int .i64 K.c, .int .i64 K.d, .int .i64 K.l, .int .i64 K.r, .int .i64 K.s]) (by simp [results, Try.results44, go_sem, e0, e1, e2, e3, e4, e5, e6, e7, e8, e9, e10, e11, e12]) rfl ⟨rfl, HB8.bel⟩
end Go.Proofs.Ytilfhilebdkmkaa

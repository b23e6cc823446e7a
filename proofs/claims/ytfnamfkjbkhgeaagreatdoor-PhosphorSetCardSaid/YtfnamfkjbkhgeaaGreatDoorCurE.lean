/-
  Frames: the page, the margins, one of them.
-/
import Derived.Test.YtfnamfkjbkhgeaaGreatDoorCurD
namespace Go.Proofs.YtfnamfkjbkhgeaaGreatDoor

open Go Go.RowKit

theorem cur_meet_eq (t l b r t' l' b' r' : Int) : meetT t l b r t' l' b' r' = refMeetT t l b r t' l' b' r' := by
  unfold meetT refMeetT
  have h : ∀ x : Bool, (x = true → bEm (max t t') (max l l') (min b b') (min r r') = true) → ((x || bEm (max t t') (max l l') (min b b') (min r r')) = bEm (max t t') (max l l') (min b b') (min r r')) := by
    intro x hx
    cases x
    · simp
    · rw [hx rfl]; rfl
  rw [h (bEm t' l' b' r') (by unfold bEm emB; simp; omega), h (bEm t l b r) (by unfold bEm emB; simp; omega)]
/-- What is known of a frame that may be stepped through: how great the page is, and where the margins lie. -/
structure FrOk (f : Fr) (H W it il ib ir : Int) : Prop where
  eH : max f.pb 1 = H
  eW : max f.pr 1 = W
  hH : 1 ≤ H ∧ H ≤ 60000
  hW : 1 ≤ W ∧ W ≤ 60000
  inn : ∃ m0 m1 m2 m3, meetT f.mt f.ml f.mb f.mr 0 0 H W = (m0, m1, m2, m3) ∧ ((bEm m0 m1 m2 m3 = true ∧ it = 0 ∧ il = 0 ∧ ib = H ∧ ir = W) ∨ (bEm m0 m1 m2 m3 = false ∧ it = m0 ∧ il = m1 ∧ ib = m2 ∧ ir = m3))
  hi : 0 ≤ it ∧ it < ib ∧ ib ≤ H
  hj : 0 ≤ il ∧ il < ir ∧ ir ≤ W
theorem fr_ok (f : Fr) (h1 : f.pb ≤ 60000) (h2 : f.pr ≤ 60000) : ∃ H W it il ib ir, FrOk f H W it il ib ir := by
  obtain ⟨m, hm⟩ : ∃ m, m = meetT f.mt f.ml f.mb f.mr 0 0 (max f.pb 1) (max f.pr 1) := ⟨_, rfl⟩
  obtain ⟨m0, m1, m2, m3⟩ := m
  cases he : bEm m0 m1 m2 m3
  · have hb : m0 < m2 ∧ m1 < m3 := by unfold bEm emB at he; simp at he; omega
    have hx : 0 ≤ m0 ∧ m2 ≤ max f.pb 1 ∧ 0 ≤ m1 ∧ m3 ≤ max f.pr 1 := by
      unfold meetT at hm
      split at hm
      · simp only [Prod.mk.injEq] at hm; omega
      · simp only [Prod.mk.injEq] at hm; omega
    exact ⟨_, _, m0, m1, m2, m3, rfl, rfl, by omega, by omega, ⟨m0, m1, m2, m3, hm.symm, .inr ⟨he, rfl, rfl, rfl, rfl⟩⟩, by omega, by omega⟩
  · exact ⟨_, _, 0, 0, _, _, rfl, rfl, by omega, by omega, ⟨m0, m1, m2, m3, hm.symm, .inl ⟨he, rfl, rfl, rfl, rfl⟩⟩, by omega, by omega⟩
theorem Bs.q0 {w W : World} {b : Nat} {T : TypeId} {l : List (Nat × TypeId × Array Value)} {u0 u1 u2 u3 : Value} (h : Bs w ((b, T, #[u0, u1, u2, u3]) :: l) W) (v0 v1 v2 v3 : Value) : Bs w ((b, T, #[v0, v1, v2, v3]) :: l) ((((W.setCell ⟨b, 0, none⟩ v0).setCell ⟨b, 1, none⟩ v1).setCell ⟨b, 2, none⟩ v2).setCell ⟨b, 3, none⟩ v3) :=
  (((h.s0 0 v0).s0 1 v1).s0 2 v2).s0 3 v3
set_option maxRecDepth 100000 in
set_option maxHeartbeats 8000000 in
theorem fWhole_any {f : Fr} {H W it il ib ir : Int} (h : FrOk f H W it il ib ir) (w : World) : Calls Tryz.prog 63 #[fV f] w fun e w' => e = .returned (bV 0 0 H W) ∧ Below w.heap.size w w' := by
  have HC := Lib.hid (fun x y V => whole_any x y V)
  have HK := Lib.hid (Bs.start2' w 41 29 (fC f) (bC 0 0 0 0))
  have hH := h.hH; have hW := h.hW
  have e1 : (f.pb < 1 ∧ H = 1) ∨ (¬ f.pb < 1 ∧ H = f.pb) := by have := h.eH; omega
  have e2 : (f.pr < 1 ∧ W = 1) ∨ (¬ f.pr < 1 ∧ W = f.pr) := by have := h.eW; omega
  have HC2 : Hid (∀ V, Calls Tryz.prog 59 #[.int .i64 H, .int .i64 W] V fun e w' => e = .returned (bV 0 0 H W) ∧ Below V.heap.size V w') := Lib.hid (fun V => by
    have := HC.out H W V
    rwa [show max H 0 = H from by omega, show max W 0 = W from by omega] at this)
  clear HC hH hW h
  unfold fV bV at *
  rcases e1 with ⟨e1, rfl⟩ | ⟨e1, rfl⟩ <;> rcases e2 with ⟨e2, rfl⟩ | ⟨e2, rfl⟩
  all_goals
    go_enter Tryz.func63, Tryz.ntmps63
    go_wp2_with fail
    refine (HC2.out _).mono ?_
    rintro e w1 ⟨rfl, hb1⟩
    have HK1 := Lib.hid (HK.out.next hb1).sw1
    clear hb1
    obtain ⟨c0, c1, c2, c3, z0, z1, z2, z3⟩ := blk4 HK1.out.b0
    have HK2 := Lib.hid (fun u v => HK1.out.q0 (.int .i64 0) (.int .i64 0) (.int .i64 u) (.int .i64 v))
    go_wp2_with fail
    have e0 := fun u v => (blk4 (HK2.out u v).b0).1; have e1 := fun u v => (blk4 (HK2.out u v).b0).2.1; have e2 := fun u v => (blk4 (HK2.out u v).b0).2.2.1; have e3 := fun u v => (blk4 (HK2.out u v).b0).2.2.2.1
    exact bodyPost_ret (v := .agg #[.int .i64 0, .int .i64 0, .int .i64 _, .int .i64 _]) (by simp [results, Tryz.results63, go_sem, e0, e1, e2, e3]; try exact ⟨rfl, rfl⟩) rfl ⟨rfl, (HK2.out _ _).bel⟩
set_option maxRecDepth 100000 in
set_option maxHeartbeats 8000000 in
theorem refWholeC_any {f : Fr} {H W it il ib ir : Int} (h : FrOk f H W it il ib ir) (w : World) : Calls Tryz.prog 42 #[fV f] w fun e w' => e = .returned (bV 0 0 H W) ∧ Below w.heap.size w w' := by
  have e1 : (1 < f.pb ∧ H = f.pb) ∨ (¬ 1 < f.pb ∧ H = 1) := by have := h.eH; omega
  have e2 : (1 < f.pr ∧ W = f.pr) ∨ (¬ 1 < f.pr ∧ W = 1) := by have := h.eW; omega
  clear h
  unfold fV bV at *
  rcases e1 with ⟨e1, rfl⟩ | ⟨e1, rfl⟩ <;> rcases e2 with ⟨e2, rfl⟩ | ⟨e2, rfl⟩
  all_goals
    go_enter Tryz.func42, Tryz.ntmps42
    go_wp2_with fail
    exact bodyPost_ret (v := .agg #[.int .i64 0, .int .i64 0, .int .i64 _, .int .i64 _]) (by simp [results, Tryz.results42, go_sem]; try exact ⟨rfl, rfl⟩) rfl ⟨rfl, by go_grown⟩
set_option maxRecDepth 100000 in
set_option maxHeartbeats 8000000 in
theorem fInner_any {f : Fr} {H W it il ib ir : Int} (h : FrOk f H W it il ib ir) (w : World) : Calls Tryz.prog 64 #[fV f] w fun e w' => e = .returned (bV it il ib ir) ∧ Below w.heap.size w w' := by
  have HWh := Lib.hid (fun V => fWhole_any h V)
  have HK := Lib.hid (Bs.start2' w 41 29 (fC f) (bC 0 0 0 0))
  obtain ⟨m0, m1, m2, m3, hm, hx⟩ := h.inn
  have HM := Lib.hid (fun V => meet_any f.mt f.ml f.mb f.mr 0 0 H W V)
  rw [hm] at HM
  simp only at HM
  have HE := Lib.hid (fun V => empty_any m0 m1 m2 m3 V)
  clear hm h
  generalize bEm m0 m1 m2 m3 = em at *
  unfold fV bV at *
  rcases hx with ⟨rfl, rfl, rfl, rfl, rfl⟩ | ⟨rfl, rfl, rfl, rfl, rfl⟩
  · skip
    go_enter Tryz.func64, Tryz.ntmps64
    go_wp2_with fail
    refine (HWh.out _).mono ?_
    rintro e w1 ⟨rfl, hb1⟩
    have HK1 := Lib.hid (HK.out.next hb1)
    clear hb1
    obtain ⟨a0, a1, a2, a3, a4, a5, a6, a7⟩ := fra8 HK1.out.b0
    have hz : w.heap.size < w1.heap.size := HK1.out.b0.lt
    go_wp2_with fail
    have HK2 := Lib.hid (HK1.out.alloc 29 #[.int .i64 0, .int .i64 0, .int .i64 ib, .int .i64 ir])
    refine (HM.out _).mono ?_
    rintro e w2 ⟨rfl, hb2⟩
    have HK3 := Lib.hid (HK2.out.next hb2)
    clear hb2 hz a0 a1 a2 a3 a4 a5 a6 a7
    go_wp2_with fail
    have HK4 := Lib.hid (HK3.out.alloc 29 #[.int .i64 m0, .int .i64 m1, .int .i64 m2, .int .i64 m3])
    refine (HE.out _).mono ?_
    rintro e w3 ⟨rfl, hb3⟩
    have HK5 := Lib.hid (HK4.out.next hb3)
    clear hb3
    obtain ⟨a0, a1, a2, a3, _⟩ := blk4 HK5.out.b0
    obtain ⟨b0, b1, b2, b3, _⟩ := blk4 HK5.out.b1
    obtain ⟨c0, c1, c2, c3, z0, z1, z2, z3⟩ := blk4 HK5.out.b3
    have HK6 := HK5.out.tl.tl.tl.q0 (.int .i64 0) (.int .i64 0) (.int .i64 ib) (.int .i64 ir)
    go_wp2_with fail
    obtain ⟨e0, e1, e2, e3, _⟩ := blk4 HK6.b0
    exact bodyPost_ret (v := .agg #[.int .i64 0, .int .i64 0, .int .i64 ib, .int .i64 ir]) (by simp [results, Tryz.results64, go_sem, e0, e1, e2, e3]) rfl ⟨rfl, HK6.bel⟩
  · skip
    go_enter Tryz.func64, Tryz.ntmps64
    go_wp2_with fail
    refine (HWh.out _).mono ?_
    rintro e w1 ⟨rfl, hb1⟩
    have HK1 := Lib.hid (HK.out.next hb1)
    clear hb1
    obtain ⟨a0, a1, a2, a3, a4, a5, a6, a7⟩ := fra8 HK1.out.b0
    have hz : w.heap.size < w1.heap.size := HK1.out.b0.lt
    go_wp2_with fail
    have HK2 := Lib.hid (HK1.out.alloc 29 #[.int .i64 0, .int .i64 0, .int .i64 H, .int .i64 W])
    refine (HM.out _).mono ?_
    rintro e w2 ⟨rfl, hb2⟩
    have HK3 := Lib.hid (HK2.out.next hb2)
    clear hb2 hz a0 a1 a2 a3 a4 a5 a6 a7
    go_wp2_with fail
    have HK4 := Lib.hid (HK3.out.alloc 29 #[.int .i64 it, .int .i64 il, .int .i64 ib, .int .i64 ir])
    refine (HE.out _).mono ?_
    rintro e w3 ⟨rfl, hb3⟩
    have HK5 := Lib.hid (HK4.out.next hb3)
    clear hb3
    obtain ⟨a0, a1, a2, a3, _⟩ := blk4 HK5.out.b0
    obtain ⟨b0, b1, b2, b3, _⟩ := blk4 HK5.out.b1
    obtain ⟨c0, c1, c2, c3, z0, z1, z2, z3⟩ := blk4 HK5.out.b3
    have HK6 := HK5.out.tl.tl.tl.q0 (.int .i64 it) (.int .i64 il) (.int .i64 ib) (.int .i64 ir)
    go_wp2_with fail
    obtain ⟨e0, e1, e2, e3, _⟩ := blk4 HK6.b0
    exact bodyPost_ret (v := .agg #[.int .i64 it, .int .i64 il, .int .i64 ib, .int .i64 ir]) (by simp [results, Tryz.results64, go_sem, e0, e1, e2, e3]) rfl ⟨rfl, HK6.bel⟩
end Go.Proofs.YtfnamfkjbkhgeaaGreatDoor

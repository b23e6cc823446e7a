/-
  Boxes, the document's own answers: what two have in common.
-/
import Derived.Test.YtilfhilebdkmkaaBoxK
import Derived.Deep.DeepCutAuto
namespace Go.Proofs.Ytilfhilebdkmkaa

open Go Go.RowKit

theorem new4 (w : World) (T U V X : TypeId) (x y z u : Array Value) :
    Blk ((((w.alloc (.cells x T)).alloc (.cells y U)).alloc (.cells z V)).alloc (.cells u X)) w.heap.size T x ∧ Blk ((((w.alloc (.cells x T)).alloc (.cells y U)).alloc (.cells z V)).alloc (.cells u X)) (w.heap.size + 1) U y ∧
    Blk ((((w.alloc (.cells x T)).alloc (.cells y U)).alloc (.cells z V)).alloc (.cells u X)) (w.heap.size + 1 + 1) V z ∧ Blk ((((w.alloc (.cells x T)).alloc (.cells y U)).alloc (.cells z V)).alloc (.cells u X)) (w.heap.size + 1 + 1 + 1) X u ∧
    Below w.heap.size w ((((w.alloc (.cells x T)).alloc (.cells y U)).alloc (.cells z V)).alloc (.cells u X)) := by
  obtain ⟨h1, h2, h3, hb⟩ := new3 w T U V x y z
  refine ⟨h1.alloc _, h2.alloc _, h3.alloc _, ?_, hb.alloc (by simp; omega) _⟩
  have := Blk.new (((w.alloc (.cells x T)).alloc (.cells y U)).alloc (.cells z V)) X u
  simpa using this

def refMeetT (t l b r t' l' b' r' : Int) : Int × Int × Int × Int :=
  if (bEm t l b r || (bEm t' l' b' r' || bEm (max t t') (max l l') (min b b') (min r r'))) = true then (0, 0, 0, 0) else (max t t', max l l', min b b', min r r')

/-- Four boxes of the call's own. -/
def KM (w : World) (x y z u : Array Value) (W : World) : Prop := Blk W w.heap.size 29 x ∧ Blk W (w.heap.size + 1) 29 y ∧ Blk W (w.heap.size + 1 + 1) 29 z ∧ Blk W (w.heap.size + 1 + 1 + 1) 29 u ∧ Below w.heap.size w W
theorem KM.set {w W : World} {x y z u : Array Value} (h : KM w x y z u W) (i : Nat) (v : Value) : KM w x y z (u.setIfInBounds i v) (W.setCell ⟨w.heap.size + 1 + 1 + 1, i, none⟩ v) :=
  ⟨Blk.far h.1 (by simp <;> omega) _, Blk.far h.2.1 (by simp <;> omega) _, Blk.far h.2.2.1 (by simp <;> omega) _, h.2.2.2.1.set_ i v, h.2.2.2.2.setCell (by simp <;> omega) _⟩
theorem KM.next {w W W' : World} {x y z u : Array Value} (h : KM w x y z u W) (hb : Below W.heap.size W W') : KM w x y z u W' := ⟨h.1.next hb, h.2.1.next hb, h.2.2.1.next hb, h.2.2.2.1.next hb, bstep h.2.2.2.2 hb⟩
set_option maxRecDepth 100000 in
set_option maxHeartbeats 8000000 in
theorem refMeet_any (t l b r t' l' b' r' : Int) (w : World) :
    Calls Try.prog 39 #[bV t l b r, bV t' l' b' r'] w fun e w' => e = .returned (bV (refMeetT t l b r t' l' b' r').1 (refMeetT t l b r t' l' b' r').2.1 (refMeetT t l b r t' l' b' r').2.2.1 (refMeetT t l b r t' l' b' r').2.2.2) ∧ Below w.heap.size w w' := by
  have HE1 := Lib.hid (fun W => refEmpty_any t l b r W)
  have HE2 := Lib.hid (fun W => refEmpty_any t' l' b' r' W)
  have HE3 := Lib.hid (fun W => refEmpty_any (max t t') (max l l') (min b b') (min r r') W)
  have HV : Hid (refMeetT t l b r t' l' b' r' = if (bEm t l b r || (bEm t' l' b' r' || bEm (max t t') (max l l') (min b b') (min r r'))) = true then (0, 0, 0, 0) else (max t t', max l l', min b b', min r r')) := Lib.hid rfl
  generalize refMeetT t l b r t' l' b' r' = res at *
  generalize bEm t l b r = v1 at *
  generalize bEm t' l' b' r' = v2 at *
  generalize bEm (max t t') (max l l') (min b b') (min r r') = v3 at *
  have h1 : Hid ((t' > t ∧ max t t' = t') ∨ (¬ t' > t ∧ max t t' = t)) := Lib.hid (by omega)
  have h2 : Hid ((l' > l ∧ max l l' = l') ∨ (¬ l' > l ∧ max l l' = l)) := Lib.hid (by omega)
  have h3 : Hid ((b' < b ∧ min b b' = b') ∨ (¬ b' < b ∧ min b b' = b)) := Lib.hid (by omega)
  have h4 : Hid ((r' < r ∧ min r r' = r') ∨ (¬ r' < r ∧ min r r' = r)) := Lib.hid (by omega)
  generalize max t t' = xt at *
  generalize max l l' = xl at *
  generalize min b b' = xb at *
  generalize min r r' = xr at *
  have HK0 := Lib.hid (show KM w (bC t l b r) (bC t' l' b' r') (bC 0 0 0 0) (bC t l b r) _ from new4 w 29 29 29 29 (bC t l b r) (bC t' l' b' r') (bC 0 0 0 0) (bC t l b r))
  unfold bV at *
  go_enter Try.func39, Try.ntmps39
  go_upto_if 11 with (fail)
  refine world_gen (KM w (bC t l b r) (bC t' l' b' r') (bC 0 0 0 0) (bC t l b r)) HK0.out ?_
  clear HK0
  intro W0 HW0
  replace HW0 := Lib.hid HW0
  go_cut [5] (fun s wx => s = .pointer (some ⟨w.heap.size + 1 + 1 + 1, 0, none⟩) ∧ KM w (bC t l b r) (bC t' l' b' r') (bC 0 0 0 0) (bC xt l b r) wx)
  case first =>
    obtain ⟨d0, d1, d2, d3, _⟩ := blk4 HW0.out.2.1
    obtain ⟨g0, g1, g2, g3, z0, z1, z2, z3⟩ := blk4 HW0.out.2.2.2.1
    rcases h1.out with ⟨c, rfl⟩ | ⟨c, rfl⟩
    · go_wp2_with fail
      go_meet
      exact ⟨rfl, HW0.out.set 0 _⟩
    · go_wp2_with fail
      go_meet
      exact ⟨rfl, HW0.out⟩
  case rest =>
    obtain ⟨rfl, hk⟩ := hcut
    clear HW0 h1
    replace HW0 := Lib.hid hk
    clear hk
    obtain ⟨d0, d1, d2, d3, _⟩ := blk4 HW0.out.2.1
    obtain ⟨g0, g1, g2, g3, z0, z1, z2, z3⟩ := blk4 HW0.out.2.2.2.1
    go_upto_if 19 with (fail)
    go_cut [5] (fun s wx => s = .pointer (some ⟨w.heap.size + 1 + 1 + 1, 0, none⟩) ∧ KM w (bC t l b r) (bC t' l' b' r') (bC 0 0 0 0) (bC xt xl b r) wx)
    case first =>
      rcases h2.out with ⟨c, rfl⟩ | ⟨c, rfl⟩
      · go_wp2_with fail
        go_meet
        exact ⟨rfl, HW0.out.set 1 _⟩
      · go_wp2_with fail
        go_meet
        exact ⟨rfl, HW0.out⟩
    case rest =>
    obtain ⟨rfl, hk⟩ := hcut
    clear HW0 h2 d0 d1 d2 d3 g0 g1 g2 g3 z0 z1 z2 z3
    replace HW0 := Lib.hid hk
    clear hk
    obtain ⟨d0, d1, d2, d3, _⟩ := blk4 HW0.out.2.1
    obtain ⟨g0, g1, g2, g3, z0, z1, z2, z3⟩ := blk4 HW0.out.2.2.2.1
    go_upto_if 27 with (fail)
    go_cut [5] (fun s wx => s = .pointer (some ⟨w.heap.size + 1 + 1 + 1, 0, none⟩) ∧ KM w (bC t l b r) (bC t' l' b' r') (bC 0 0 0 0) (bC xt xl xb r) wx)
    case first =>
      rcases h3.out with ⟨c, rfl⟩ | ⟨c, rfl⟩
      · go_wp2_with fail
        go_meet
        exact ⟨rfl, HW0.out.set 2 _⟩
      · go_wp2_with fail
        go_meet
        exact ⟨rfl, HW0.out⟩
    case rest =>
    obtain ⟨rfl, hk⟩ := hcut
    clear HW0 h3 d0 d1 d2 d3 g0 g1 g2 g3 z0 z1 z2 z3
    replace HW0 := Lib.hid hk
    clear hk
    obtain ⟨d0, d1, d2, d3, _⟩ := blk4 HW0.out.2.1
    obtain ⟨g0, g1, g2, g3, z0, z1, z2, z3⟩ := blk4 HW0.out.2.2.2.1
    go_upto_if 35 with (fail)
    go_cut [5] (fun s wx => s = .pointer (some ⟨w.heap.size + 1 + 1 + 1, 0, none⟩) ∧ KM w (bC t l b r) (bC t' l' b' r') (bC 0 0 0 0) (bC xt xl xb xr) wx)
    case first =>
      rcases h4.out with ⟨c, rfl⟩ | ⟨c, rfl⟩
      · go_wp2_with fail
        go_meet
        exact ⟨rfl, HW0.out.set 3 _⟩
      · go_wp2_with fail
        go_meet
        exact ⟨rfl, HW0.out⟩
    case rest =>
    obtain ⟨rfl, hk⟩ := hcut
    clear HW0 h4 d0 d1 d2 d3 g0 g1 g2 g3 z0 z1 z2 z3
    replace HW0 := Lib.hid hk
    clear hk
    obtain ⟨c0, c1, c2, c3, _⟩ := blk4 HW0.out.1
    go_wp2_with fail
    refine (HE1.out _).mono ?_
    rintro e w1 ⟨rfl, hb1⟩
    have HK1 := Lib.hid (HW0.out.next hb1)
    clear hb1 c0 c1 c2 c3 HW0
    obtain ⟨_, _, _, _, z0, z1, z2, z3⟩ := blk4 HK1.out.2.2.1
    cases v1
    · obtain ⟨c0, c1, c2, c3, _⟩ := blk4 HK1.out.2.1
      clear z0 z1 z2 z3
      go_wp2_with fail
      refine (HE2.out _).mono ?_
      rintro e w2 ⟨rfl, hb2⟩
      have HK2 := Lib.hid (HK1.out.next hb2)
      clear hb2 c0 c1 c2 c3 HK1
      cases v2
      · obtain ⟨c0, c1, c2, c3, _⟩ := blk4 HK2.out.2.2.2.1
        go_wp2_with fail
        refine (HE3.out _).mono ?_
        rintro e w3 ⟨rfl, hb3⟩
        have HK3 := Lib.hid (HK2.out.next hb3)
        clear hb3 c0 c1 c2 c3 HK2
        obtain ⟨_, _, _, _, z0, z1, z2, z3⟩ := blk4 HK3.out.2.2.1
        cases v3
        · obtain rfl : res = (xt, xl, xb, xr) := by rw [HV.out]; simp
          obtain ⟨c0, c1, c2, c3, _⟩ := blk4 HK3.out.2.2.2.1
          go_wp2_with fail
          obtain ⟨e0, e1, e2, e3, _⟩ := blk4 (repl4 HK3.out.2.2.1 (.int .i64 xt) (.int .i64 xl) (.int .i64 xb) (.int .i64 xr)).here
          exact bodyPost_ret (v := .agg #[.int .i64 xt, .int .i64 xl, .int .i64 xb, .int .i64 xr]) (by simp [results, Try.results39, go_sem, e0, e1, e2, e3]) rfl ⟨rfl, (((HK3.out.2.2.2.2.setCell (by simp; omega) _).setCell (by simp; omega) _).setCell (by simp; omega) _).setCell (by simp; omega) _⟩
        · obtain rfl : res = (0, 0, 0, 0) := by rw [HV.out]; simp
          go_wp2_with fail
          obtain ⟨e0, e1, e2, e3, _⟩ := blk4 (repl4 HK3.out.2.2.1 (.int .i64 0) (.int .i64 0) (.int .i64 0) (.int .i64 0)).here
          exact bodyPost_ret (v := .agg #[.int .i64 0, .int .i64 0, .int .i64 0, .int .i64 0]) (by simp [results, Try.results39, go_sem, e0, e1, e2, e3]) rfl ⟨rfl, (((HK3.out.2.2.2.2.setCell (by simp; omega) _).setCell (by simp; omega) _).setCell (by simp; omega) _).setCell (by simp; omega) _⟩
      · obtain rfl : res = (0, 0, 0, 0) := by rw [HV.out]; simp
        obtain ⟨_, _, _, _, z0, z1, z2, z3⟩ := blk4 HK2.out.2.2.1
        go_wp2_with fail
        obtain ⟨e0, e1, e2, e3, _⟩ := blk4 (repl4 HK2.out.2.2.1 (.int .i64 0) (.int .i64 0) (.int .i64 0) (.int .i64 0)).here
        exact bodyPost_ret (v := .agg #[.int .i64 0, .int .i64 0, .int .i64 0, .int .i64 0]) (by simp [results, Try.results39, go_sem, e0, e1, e2, e3]) rfl ⟨rfl, (((HK2.out.2.2.2.2.setCell (by simp; omega) _).setCell (by simp; omega) _).setCell (by simp; omega) _).setCell (by simp; omega) _⟩
    · obtain rfl : res = (0, 0, 0, 0) := by rw [HV.out]; simp
      go_wp2_with fail
      obtain ⟨e0, e1, e2, e3, _⟩ := blk4 (repl4 HK1.out.2.2.1 (.int .i64 0) (.int .i64 0) (.int .i64 0) (.int .i64 0)).here
      exact bodyPost_ret (v := .agg #[.int .i64 0, .int .i64 0, .int .i64 0, .int .i64 0]) (by simp [results, Try.results39, go_sem, e0, e1, e2, e3]) rfl ⟨rfl, (((HK1.out.2.2.2.2.setCell (by simp; omega) _).setCell (by simp; omega) _).setCell (by simp; omega) _).setCell (by simp; omega) _⟩
end Go.Proofs.Ytilfhilebdkmkaa

/-
  States of sets: what the reference designates.
-/
import Derived.Test.YtandfpghjbbalaaDoorIsoH
import Derived.Test.YtandfpghjbbalaaDoorChsP
namespace Go.Proofs.YtandfpghjbbalaaDoor
open Go Go.RowKit

theorem KJ.res {w W : World} {x : Array Value} (h : KJ w x W) (v0 v1 v2 v3 v4 v5 v6 : Value) :
    ((put7 W (w.heap.size + 1) v0 v1 v2 v3 v4 v5 v6).cell? ⟨w.heap.size + 1, 0, none⟩ = some v0 ∧ (put7 W (w.heap.size + 1) v0 v1 v2 v3 v4 v5 v6).cell? ⟨w.heap.size + 1, 1, none⟩ = some v1 ∧ (put7 W (w.heap.size + 1) v0 v1 v2 v3 v4 v5 v6).cell? ⟨w.heap.size + 1, 2, none⟩ = some v2 ∧ (put7 W (w.heap.size + 1) v0 v1 v2 v3 v4 v5 v6).cell? ⟨w.heap.size + 1, 3, none⟩ = some v3 ∧ (put7 W (w.heap.size + 1) v0 v1 v2 v3 v4 v5 v6).cell? ⟨w.heap.size + 1, 4, none⟩ = some v4 ∧ (put7 W (w.heap.size + 1) v0 v1 v2 v3 v4 v5 v6).cell? ⟨w.heap.size + 1, 5, none⟩ = some v5 ∧ (put7 W (w.heap.size + 1) v0 v1 v2 v3 v4 v5 v6).cell? ⟨w.heap.size + 1, 6, none⟩ = some v6) ∧ Below w.heap.size w (put7 W (w.heap.size + 1) v0 v1 v2 v3 v4 v5 v6) :=
  ⟨seven (put7_blk h.2.1 v0 v1 v2 v3 v4 v5 v6), put7_below h.2.2 (by omega) _ _ _ _ _ _ _⟩
set_option maxRecDepth 100000 in
set_option maxHeartbeats 8000000 in
theorem refDesignate_any (x : Iso) (g : Int) (wide : Bool) (id : ByteArray) (w : World) :
    Calls Tryd.prog 60 #[x.val, .int .i64 g, .bool wide, .string id] w fun e w' => e = .returned (desV (desP x g wide id)) ∧ Below w.heap.size w w' := by
  have HF := Lib.hid (fun W => refFind_any wide id W)
  unfold desP desV
  rw [find_same]
  generalize rfnP wide id = n at *
  have HK := Lib.hid (KJ.start w x.cs)
  obtain ⟨a, b, c, d, l, r, s⟩ := x
  unfold Iso.val Iso.cs at *
  simp only at HK ⊢
  rcases hn : ((n : Int) == 0) with _ | _
  · have hn0 : n ≠ 0 := by simpa using hn
    rcases g1 : decide (g < 0) with _ | _
    · rcases g2 : decide (3 < g) with _ | _
      · have hg : g = 0 ∨ g = 1 ∨ g = 2 ∨ g = 3 := by simp at g1 g2; omega
        clear g1 g2
        rcases hg with rfl | rfl | rfl | rfl
        · cases wide with
          | true =>
            rw [if_neg (fun h => h.2.2 ⟨rfl, rfl⟩)]
            simp only
            go_enter Tryd.func60, Tryd.ntmps60
            go_wp2_with fail
            refine (HF.out _).mono ?_
            rintro e w1 ⟨rfl, rfl⟩
            generalize (w.alloc (.cells #[.int .i64 a, .int .i64 b, .int .i64 c, .int .i64 d, .int .i64 l, .int .i64 r, .int .i64 s] 35)).alloc (.cells #[.int .i64 0, .int .i64 0, .int .i64 0, .int .i64 0, .int .i64 0, .int .i64 0, .int .i64 0] 35) = w1 at *
            obtain ⟨c0, c1, c2, c3, c4, c5, c6⟩ := seven HK.out.1
            obtain ⟨z0, z1, z2, z3, z4, z5, z6⟩ := seven HK.out.2.1
            obtain ⟨f0, f1, f2, f3, f4, f5, f6⟩ := seven_fr HK.out.2.1
            obtain ⟨⟨e0, e1, e2, e3, e4, e5, e6⟩, hbl⟩ := KJ.res HK.out (.int .i64 a) (.int .i64 b) (.int .i64 c) (.int .i64 d) (.int .i64 l) (.int .i64 r) (.int .i64 s)
            unfold put7 at e0 e1 e2 e3 e4 e5 e6 hbl
            go_wp2_with fail
            exact bodyPost_ret (v := .tuple #[.agg #[.int .i64 a, .int .i64 b, .int .i64 c, .int .i64 d, .int .i64 l, .int .i64 r, .int .i64 s], .bool false]) (by simp [results, Tryd.results60, go_sem, e0, e1, e2, e3, e4, e5, e6]) rfl ⟨rfl, hbl⟩
          | false =>
            rw [if_pos ⟨hn0, rfl, by simp⟩]
            rw [show Iso.put ⟨a, b, c, d, l, r, s⟩ 0 n = ⟨n, b, c, d, l, r, s⟩ from rfl]
            simp only
            go_enter Tryd.func60, Tryd.ntmps60
            go_wp2_with fail
            refine (HF.out _).mono ?_
            rintro e w1 ⟨rfl, rfl⟩
            generalize (w.alloc (.cells #[.int .i64 a, .int .i64 b, .int .i64 c, .int .i64 d, .int .i64 l, .int .i64 r, .int .i64 s] 35)).alloc (.cells #[.int .i64 0, .int .i64 0, .int .i64 0, .int .i64 0, .int .i64 0, .int .i64 0, .int .i64 0] 35) = w1 at *
            obtain ⟨c0, c1, c2, c3, c4, c5, c6⟩ := seven HK.out.1
            obtain ⟨z0, z1, z2, z3, z4, z5, z6⟩ := seven HK.out.2.1
            obtain ⟨f0, f1, f2, f3, f4, f5, f6⟩ := seven_fr HK.out.2.1
            obtain ⟨y0, y1, y2, y3, y4, y5, y6⟩ := seven_fr HK.out.1
            have HK2 := Lib.hid (KJ.store HK.out 0 (.int .i64 (n : Int)))
            simp only [List.setIfInBounds_toArray, List.set_cons_zero] at HK2
            obtain ⟨⟨e0, e1, e2, e3, e4, e5, e6⟩, hbl⟩ := KJ.res HK2.out (.int .i64 (n : Int)) (.int .i64 b) (.int .i64 c) (.int .i64 d) (.int .i64 l) (.int .i64 r) (.int .i64 s)
            unfold put7 at e0 e1 e2 e3 e4 e5 e6 hbl
            go_wp2_with fail
            exact bodyPost_ret (v := .tuple #[.agg #[.int .i64 (n : Int), .int .i64 b, .int .i64 c, .int .i64 d, .int .i64 l, .int .i64 r, .int .i64 s], .bool true]) (by simp [results, Tryd.results60, go_sem, e0, e1, e2, e3, e4, e5, e6]) rfl ⟨rfl, hbl⟩
        · rw [if_pos ⟨hn0, rfl, by simp⟩]
          rw [show Iso.put ⟨a, b, c, d, l, r, s⟩ 1 n = ⟨a, n, c, d, l, r, s⟩ from rfl]
          simp only
          cases wide with
          | true =>
            go_enter Tryd.func60, Tryd.ntmps60
            go_wp2_with fail
            refine (HF.out _).mono ?_
            rintro e w1 ⟨rfl, rfl⟩
            generalize (w.alloc (.cells #[.int .i64 a, .int .i64 b, .int .i64 c, .int .i64 d, .int .i64 l, .int .i64 r, .int .i64 s] 35)).alloc (.cells #[.int .i64 0, .int .i64 0, .int .i64 0, .int .i64 0, .int .i64 0, .int .i64 0, .int .i64 0] 35) = w1 at *
            obtain ⟨c0, c1, c2, c3, c4, c5, c6⟩ := seven HK.out.1
            obtain ⟨z0, z1, z2, z3, z4, z5, z6⟩ := seven HK.out.2.1
            obtain ⟨f0, f1, f2, f3, f4, f5, f6⟩ := seven_fr HK.out.2.1
            obtain ⟨y0, y1, y2, y3, y4, y5, y6⟩ := seven_fr HK.out.1
            have HK2 := Lib.hid (KJ.store HK.out 1 (.int .i64 (n : Int)))
            simp only [List.setIfInBounds_toArray, List.set_cons_zero, List.set_cons_succ] at HK2
            obtain ⟨⟨e0, e1, e2, e3, e4, e5, e6⟩, hbl⟩ := KJ.res HK2.out (.int .i64 a) (.int .i64 (n : Int)) (.int .i64 c) (.int .i64 d) (.int .i64 l) (.int .i64 r) (.int .i64 s)
            unfold put7 at e0 e1 e2 e3 e4 e5 e6 hbl
            go_wp2_with fail
            exact bodyPost_ret (v := .tuple #[.agg #[.int .i64 a, .int .i64 (n : Int), .int .i64 c, .int .i64 d, .int .i64 l, .int .i64 r, .int .i64 s], .bool true]) (by simp [results, Tryd.results60, go_sem, e0, e1, e2, e3, e4, e5, e6]) rfl ⟨rfl, hbl⟩
          | false =>
            go_enter Tryd.func60, Tryd.ntmps60
            go_wp2_with fail
            refine (HF.out _).mono ?_
            rintro e w1 ⟨rfl, rfl⟩
            generalize (w.alloc (.cells #[.int .i64 a, .int .i64 b, .int .i64 c, .int .i64 d, .int .i64 l, .int .i64 r, .int .i64 s] 35)).alloc (.cells #[.int .i64 0, .int .i64 0, .int .i64 0, .int .i64 0, .int .i64 0, .int .i64 0, .int .i64 0] 35) = w1 at *
            obtain ⟨c0, c1, c2, c3, c4, c5, c6⟩ := seven HK.out.1
            obtain ⟨z0, z1, z2, z3, z4, z5, z6⟩ := seven HK.out.2.1
            obtain ⟨f0, f1, f2, f3, f4, f5, f6⟩ := seven_fr HK.out.2.1
            obtain ⟨y0, y1, y2, y3, y4, y5, y6⟩ := seven_fr HK.out.1
            have HK2 := Lib.hid (KJ.store HK.out 1 (.int .i64 (n : Int)))
            simp only [List.setIfInBounds_toArray, List.set_cons_zero, List.set_cons_succ] at HK2
            obtain ⟨⟨e0, e1, e2, e3, e4, e5, e6⟩, hbl⟩ := KJ.res HK2.out (.int .i64 a) (.int .i64 (n : Int)) (.int .i64 c) (.int .i64 d) (.int .i64 l) (.int .i64 r) (.int .i64 s)
            unfold put7 at e0 e1 e2 e3 e4 e5 e6 hbl
            go_wp2_with fail
            exact bodyPost_ret (v := .tuple #[.agg #[.int .i64 a, .int .i64 (n : Int), .int .i64 c, .int .i64 d, .int .i64 l, .int .i64 r, .int .i64 s], .bool true]) (by simp [results, Tryd.results60, go_sem, e0, e1, e2, e3, e4, e5, e6]) rfl ⟨rfl, hbl⟩
        · rw [if_pos ⟨hn0, rfl, by simp⟩]
          rw [show Iso.put ⟨a, b, c, d, l, r, s⟩ 2 n = ⟨a, b, n, d, l, r, s⟩ from rfl]
          simp only
          cases wide with
          | true =>
            go_enter Tryd.func60, Tryd.ntmps60
            go_wp2_with fail
            refine (HF.out _).mono ?_
            rintro e w1 ⟨rfl, rfl⟩
            generalize (w.alloc (.cells #[.int .i64 a, .int .i64 b, .int .i64 c, .int .i64 d, .int .i64 l, .int .i64 r, .int .i64 s] 35)).alloc (.cells #[.int .i64 0, .int .i64 0, .int .i64 0, .int .i64 0, .int .i64 0, .int .i64 0, .int .i64 0] 35) = w1 at *
            obtain ⟨c0, c1, c2, c3, c4, c5, c6⟩ := seven HK.out.1
            obtain ⟨z0, z1, z2, z3, z4, z5, z6⟩ := seven HK.out.2.1
            obtain ⟨f0, f1, f2, f3, f4, f5, f6⟩ := seven_fr HK.out.2.1
            obtain ⟨y0, y1, y2, y3, y4, y5, y6⟩ := seven_fr HK.out.1
            have HK2 := Lib.hid (KJ.store HK.out 2 (.int .i64 (n : Int)))
            simp only [List.setIfInBounds_toArray, List.set_cons_zero, List.set_cons_succ] at HK2
            obtain ⟨⟨e0, e1, e2, e3, e4, e5, e6⟩, hbl⟩ := KJ.res HK2.out (.int .i64 a) (.int .i64 b) (.int .i64 (n : Int)) (.int .i64 d) (.int .i64 l) (.int .i64 r) (.int .i64 s)
            unfold put7 at e0 e1 e2 e3 e4 e5 e6 hbl
            go_wp2_with fail
            exact bodyPost_ret (v := .tuple #[.agg #[.int .i64 a, .int .i64 b, .int .i64 (n : Int), .int .i64 d, .int .i64 l, .int .i64 r, .int .i64 s], .bool true]) (by simp [results, Tryd.results60, go_sem, e0, e1, e2, e3, e4, e5, e6]) rfl ⟨rfl, hbl⟩
          | false =>
            go_enter Tryd.func60, Tryd.ntmps60
            go_wp2_with fail
            refine (HF.out _).mono ?_
            rintro e w1 ⟨rfl, rfl⟩
            generalize (w.alloc (.cells #[.int .i64 a, .int .i64 b, .int .i64 c, .int .i64 d, .int .i64 l, .int .i64 r, .int .i64 s] 35)).alloc (.cells #[.int .i64 0, .int .i64 0, .int .i64 0, .int .i64 0, .int .i64 0, .int .i64 0, .int .i64 0] 35) = w1 at *
            obtain ⟨c0, c1, c2, c3, c4, c5, c6⟩ := seven HK.out.1
            obtain ⟨z0, z1, z2, z3, z4, z5, z6⟩ := seven HK.out.2.1
            obtain ⟨f0, f1, f2, f3, f4, f5, f6⟩ := seven_fr HK.out.2.1
            obtain ⟨y0, y1, y2, y3, y4, y5, y6⟩ := seven_fr HK.out.1
            have HK2 := Lib.hid (KJ.store HK.out 2 (.int .i64 (n : Int)))
            simp only [List.setIfInBounds_toArray, List.set_cons_zero, List.set_cons_succ] at HK2
            obtain ⟨⟨e0, e1, e2, e3, e4, e5, e6⟩, hbl⟩ := KJ.res HK2.out (.int .i64 a) (.int .i64 b) (.int .i64 (n : Int)) (.int .i64 d) (.int .i64 l) (.int .i64 r) (.int .i64 s)
            unfold put7 at e0 e1 e2 e3 e4 e5 e6 hbl
            go_wp2_with fail
            exact bodyPost_ret (v := .tuple #[.agg #[.int .i64 a, .int .i64 b, .int .i64 (n : Int), .int .i64 d, .int .i64 l, .int .i64 r, .int .i64 s], .bool true]) (by simp [results, Tryd.results60, go_sem, e0, e1, e2, e3, e4, e5, e6]) rfl ⟨rfl, hbl⟩
        · rw [if_pos ⟨hn0, rfl, by simp⟩]
          rw [show Iso.put ⟨a, b, c, d, l, r, s⟩ 3 n = ⟨a, b, c, n, l, r, s⟩ from rfl]
          simp only
          cases wide with
          | true =>
            go_enter Tryd.func60, Tryd.ntmps60
            go_wp2_with fail
            refine (HF.out _).mono ?_
            rintro e w1 ⟨rfl, rfl⟩
            generalize (w.alloc (.cells #[.int .i64 a, .int .i64 b, .int .i64 c, .int .i64 d, .int .i64 l, .int .i64 r, .int .i64 s] 35)).alloc (.cells #[.int .i64 0, .int .i64 0, .int .i64 0, .int .i64 0, .int .i64 0, .int .i64 0, .int .i64 0] 35) = w1 at *
            obtain ⟨c0, c1, c2, c3, c4, c5, c6⟩ := seven HK.out.1
            obtain ⟨z0, z1, z2, z3, z4, z5, z6⟩ := seven HK.out.2.1
            obtain ⟨f0, f1, f2, f3, f4, f5, f6⟩ := seven_fr HK.out.2.1
            obtain ⟨y0, y1, y2, y3, y4, y5, y6⟩ := seven_fr HK.out.1
            have HK2 := Lib.hid (KJ.store HK.out 3 (.int .i64 (n : Int)))
            simp only [List.setIfInBounds_toArray, List.set_cons_zero, List.set_cons_succ] at HK2
            obtain ⟨⟨e0, e1, e2, e3, e4, e5, e6⟩, hbl⟩ := KJ.res HK2.out (.int .i64 a) (.int .i64 b) (.int .i64 c) (.int .i64 (n : Int)) (.int .i64 l) (.int .i64 r) (.int .i64 s)
            unfold put7 at e0 e1 e2 e3 e4 e5 e6 hbl
            go_wp2_with fail
            exact bodyPost_ret (v := .tuple #[.agg #[.int .i64 a, .int .i64 b, .int .i64 c, .int .i64 (n : Int), .int .i64 l, .int .i64 r, .int .i64 s], .bool true]) (by simp [results, Tryd.results60, go_sem, e0, e1, e2, e3, e4, e5, e6]) rfl ⟨rfl, hbl⟩
          | false =>
            go_enter Tryd.func60, Tryd.ntmps60
            go_wp2_with fail
            refine (HF.out _).mono ?_
            rintro e w1 ⟨rfl, rfl⟩
            generalize (w.alloc (.cells #[.int .i64 a, .int .i64 b, .int .i64 c, .int .i64 d, .int .i64 l, .int .i64 r, .int .i64 s] 35)).alloc (.cells #[.int .i64 0, .int .i64 0, .int .i64 0, .int .i64 0, .int .i64 0, .int .i64 0, .int .i64 0] 35) = w1 at *
            obtain ⟨c0, c1, c2, c3, c4, c5, c6⟩ := seven HK.out.1
            obtain ⟨z0, z1, z2, z3, z4, z5, z6⟩ := seven HK.out.2.1
            obtain ⟨f0, f1, f2, f3, f4, f5, f6⟩ := seven_fr HK.out.2.1
            obtain ⟨y0, y1, y2, y3, y4, y5, y6⟩ := seven_fr HK.out.1
            have HK2 := Lib.hid (KJ.store HK.out 3 (.int .i64 (n : Int)))
            simp only [List.setIfInBounds_toArray, List.set_cons_zero, List.set_cons_succ] at HK2
            obtain ⟨⟨e0, e1, e2, e3, e4, e5, e6⟩, hbl⟩ := KJ.res HK2.out (.int .i64 a) (.int .i64 b) (.int .i64 c) (.int .i64 (n : Int)) (.int .i64 l) (.int .i64 r) (.int .i64 s)
            unfold put7 at e0 e1 e2 e3 e4 e5 e6 hbl
            go_wp2_with fail
            exact bodyPost_ret (v := .tuple #[.agg #[.int .i64 a, .int .i64 b, .int .i64 c, .int .i64 (n : Int), .int .i64 l, .int .i64 r, .int .i64 s], .bool true]) (by simp [results, Tryd.results60, go_sem, e0, e1, e2, e3, e4, e5, e6]) rfl ⟨rfl, hbl⟩
      · rw [if_neg (fun h => by have h1 := h.2.1; unfold inB at h1; simp at h1 g2; omega)]
        simp only
        go_enter Tryd.func60, Tryd.ntmps60
        go_wp2_with fail
        refine (HF.out _).mono ?_
        rintro e w1 ⟨rfl, rfl⟩
        generalize (w.alloc (.cells #[.int .i64 a, .int .i64 b, .int .i64 c, .int .i64 d, .int .i64 l, .int .i64 r, .int .i64 s] 35)).alloc (.cells #[.int .i64 0, .int .i64 0, .int .i64 0, .int .i64 0, .int .i64 0, .int .i64 0, .int .i64 0] 35) = w1 at *
        obtain ⟨c0, c1, c2, c3, c4, c5, c6⟩ := seven HK.out.1
        obtain ⟨z0, z1, z2, z3, z4, z5, z6⟩ := seven HK.out.2.1
        obtain ⟨f0, f1, f2, f3, f4, f5, f6⟩ := seven_fr HK.out.2.1
        obtain ⟨⟨e0, e1, e2, e3, e4, e5, e6⟩, hbl⟩ := KJ.res HK.out (.int .i64 a) (.int .i64 b) (.int .i64 c) (.int .i64 d) (.int .i64 l) (.int .i64 r) (.int .i64 s)
        unfold put7 at e0 e1 e2 e3 e4 e5 e6 hbl
        go_wp2_with fail
        exact bodyPost_ret (v := .tuple #[.agg #[.int .i64 a, .int .i64 b, .int .i64 c, .int .i64 d, .int .i64 l, .int .i64 r, .int .i64 s], .bool false]) (by simp [results, Tryd.results60, go_sem, e0, e1, e2, e3, e4, e5, e6]) rfl ⟨rfl, hbl⟩
    · rw [if_neg (fun h => by have h1 := h.2.1; unfold inB at h1; simp at h1 g1; omega)]
      simp only
      go_enter Tryd.func60, Tryd.ntmps60
      go_wp2_with fail
      refine (HF.out _).mono ?_
      rintro e w1 ⟨rfl, rfl⟩
      generalize (w.alloc (.cells #[.int .i64 a, .int .i64 b, .int .i64 c, .int .i64 d, .int .i64 l, .int .i64 r, .int .i64 s] 35)).alloc (.cells #[.int .i64 0, .int .i64 0, .int .i64 0, .int .i64 0, .int .i64 0, .int .i64 0, .int .i64 0] 35) = w1 at *
      obtain ⟨c0, c1, c2, c3, c4, c5, c6⟩ := seven HK.out.1
      obtain ⟨z0, z1, z2, z3, z4, z5, z6⟩ := seven HK.out.2.1
      obtain ⟨f0, f1, f2, f3, f4, f5, f6⟩ := seven_fr HK.out.2.1
      obtain ⟨⟨e0, e1, e2, e3, e4, e5, e6⟩, hbl⟩ := KJ.res HK.out (.int .i64 a) (.int .i64 b) (.int .i64 c) (.int .i64 d) (.int .i64 l) (.int .i64 r) (.int .i64 s)
      unfold put7 at e0 e1 e2 e3 e4 e5 e6 hbl
      go_wp2_with fail
      exact bodyPost_ret (v := .tuple #[.agg #[.int .i64 a, .int .i64 b, .int .i64 c, .int .i64 d, .int .i64 l, .int .i64 r, .int .i64 s], .bool false]) (by simp [results, Tryd.results60, go_sem, e0, e1, e2, e3, e4, e5, e6]) rfl ⟨rfl, hbl⟩
  · rw [if_neg (fun h => by have h1 := h.1; simp at hn; exact h1 hn)]
    simp only
    go_enter Tryd.func60, Tryd.ntmps60
    go_wp2_with fail
    refine (HF.out _).mono ?_
    rintro e w1 ⟨rfl, rfl⟩
    generalize (w.alloc (.cells #[.int .i64 a, .int .i64 b, .int .i64 c, .int .i64 d, .int .i64 l, .int .i64 r, .int .i64 s] 35)).alloc (.cells #[.int .i64 0, .int .i64 0, .int .i64 0, .int .i64 0, .int .i64 0, .int .i64 0, .int .i64 0] 35) = w1 at *
    obtain ⟨c0, c1, c2, c3, c4, c5, c6⟩ := seven HK.out.1
    obtain ⟨z0, z1, z2, z3, z4, z5, z6⟩ := seven HK.out.2.1
    obtain ⟨f0, f1, f2, f3, f4, f5, f6⟩ := seven_fr HK.out.2.1
    obtain ⟨⟨e0, e1, e2, e3, e4, e5, e6⟩, hbl⟩ := KJ.res HK.out (.int .i64 a) (.int .i64 b) (.int .i64 c) (.int .i64 d) (.int .i64 l) (.int .i64 r) (.int .i64 s)
    unfold put7 at e0 e1 e2 e3 e4 e5 e6 hbl
    go_wp2_with fail
    exact bodyPost_ret (v := .tuple #[.agg #[.int .i64 a, .int .i64 b, .int .i64 c, .int .i64 d, .int .i64 l, .int .i64 r, .int .i64 s], .bool false]) (by simp [results, Tryd.results60, go_sem, e0, e1, e2, e3, e4, e5, e6]) rfl ⟨rfl, hbl⟩
end Go.Proofs.YtandfpghjbbalaaDoor

/-
  States of sets: what the reference designates.
  States of sets: an id cut from what is told.
  States of sets: how what was told is brought back, plainly.
-/
import Derived.Test.YtfnamfkjbkhgeaaGreatDoorIsoH
import Derived.Test.YtfnamfkjbkhgeaaGreatDoorChsP
import Derived.Test.YtfnamfkjbkhgeaaGreatDoorMixE
import Derived.Test.YtfnamfkjbkhgeaaGreatDoorIsoJ
namespace Go.Proofs.YtfnamfkjbkhgeaaGreatDoor

open Go Go.RowKit

theorem KJ.res {w W : World} {x : Array Value} (h : KJ w x W) (v0 v1 v2 v3 v4 v5 v6 : Value) :
    ((put7 W (w.heap.size + 1) v0 v1 v2 v3 v4 v5 v6).cell? ⟨w.heap.size + 1, 0, none⟩ = some v0 ∧ (put7 W (w.heap.size + 1) v0 v1 v2 v3 v4 v5 v6).cell? ⟨w.heap.size + 1, 1, none⟩ = some v1 ∧ (put7 W (w.heap.size + 1) v0 v1 v2 v3 v4 v5 v6).cell? ⟨w.heap.size + 1, 2, none⟩ = some v2 ∧ (put7 W (w.heap.size + 1) v0 v1 v2 v3 v4 v5 v6).cell? ⟨w.heap.size + 1, 3, none⟩ = some v3 ∧ (put7 W (w.heap.size + 1) v0 v1 v2 v3 v4 v5 v6).cell? ⟨w.heap.size + 1, 4, none⟩ = some v4 ∧ (put7 W (w.heap.size + 1) v0 v1 v2 v3 v4 v5 v6).cell? ⟨w.heap.size + 1, 5, none⟩ = some v5 ∧ (put7 W (w.heap.size + 1) v0 v1 v2 v3 v4 v5 v6).cell? ⟨w.heap.size + 1, 6, none⟩ = some v6) ∧ Below w.heap.size w (put7 W (w.heap.size + 1) v0 v1 v2 v3 v4 v5 v6) :=
  ⟨seven (put7_blk h.2.1 v0 v1 v2 v3 v4 v5 v6), put7_below h.2.2 (by omega) _ _ _ _ _ _ _⟩
set_option maxRecDepth 100000 in
set_option maxHeartbeats 8000000 in
theorem refDesignate_any (x : Iso) (g : Int) (wide : Bool) (id : ByteArray) (w : World) :
    Calls Tryz.prog 85 #[x.val, .int .i64 g, .bool wide, .string id] w fun e w' => e = .returned (desV (desP x g wide id)) ∧ Below w.heap.size w w' := by
  have HF := Lib.hid (fun W => refFind_any wide id W)
  unfold desP desV
  rw [find_same]
  generalize rfnP wide id = n at *
  have HK := Lib.hid (KJ.start w x.cs)
  obtain ⟨a, b, c, d, l, r, s⟩ := x
  unfold Iso.val Iso.cs at *
  simp only at HK ⊢
  rcases hn : ((n : Int) == 0) with _ | _
  · have hn0 : n ≠ 0 := by simpa using hn
    rcases g1 : decide (g < 0) with _ | _
    · rcases g2 : decide (3 < g) with _ | _
      · have hg : g = 0 ∨ g = 1 ∨ g = 2 ∨ g = 3 := by simp at g1 g2; omega
        clear g1 g2
        rcases hg with rfl | rfl | rfl | rfl
        · cases wide with
          | true =>
            rw [if_neg (fun h => h.2.2 ⟨rfl, rfl⟩)]
            simp only
            go_enter Tryz.func85, Tryz.ntmps85
            go_wp2_with fail
            refine (HF.out _).mono ?_
            rintro e w1 ⟨rfl, rfl⟩
            generalize (w.alloc (.cells #[.int .i64 a, .int .i64 b, .int .i64 c, .int .i64 d, .int .i64 l, .int .i64 r, .int .i64 s] 25)).alloc (.cells #[.int .i64 0, .int .i64 0, .int .i64 0, .int .i64 0, .int .i64 0, .int .i64 0, .int .i64 0] 25) = w1 at *
            obtain ⟨c0, c1, c2, c3, c4, c5, c6⟩ := seven HK.out.1
            obtain ⟨z0, z1, z2, z3, z4, z5, z6⟩ := seven HK.out.2.1
            obtain ⟨f0, f1, f2, f3, f4, f5, f6⟩ := seven_fr HK.out.2.1
            obtain ⟨⟨e0, e1, e2, e3, e4, e5, e6⟩, hbl⟩ := KJ.res HK.out (.int .i64 a) (.int .i64 b) (.int .i64 c) (.int .i64 d) (.int .i64 l) (.int .i64 r) (.int .i64 s)
            unfold put7 at e0 e1 e2 e3 e4 e5 e6 hbl
            go_wp2_with fail
            exact bodyPost_ret (v := .tuple #[.agg #[.int .i64 a, .int .i64 b, .int .i64 c, .int .i64 d, .int .i64 l, .int .i64 r, .int .i64 s], .bool false]) (by simp [results, Tryz.results85, go_sem, e0, e1, e2, e3, e4, e5, e6]) rfl ⟨rfl, hbl⟩
          | false =>
            rw [if_pos ⟨hn0, rfl, by simp⟩]
            rw [show Iso.put ⟨a, b, c, d, l, r, s⟩ 0 n = ⟨n, b, c, d, l, r, s⟩ from rfl]
            simp only
            go_enter Tryz.func85, Tryz.ntmps85
            go_wp2_with fail
            refine (HF.out _).mono ?_
            rintro e w1 ⟨rfl, rfl⟩
            generalize (w.alloc (.cells #[.int .i64 a, .int .i64 b, .int .i64 c, .int .i64 d, .int .i64 l, .int .i64 r, .int .i64 s] 25)).alloc (.cells #[.int .i64 0, .int .i64 0, .int .i64 0, .int .i64 0, .int .i64 0, .int .i64 0, .int .i64 0] 25) = w1 at *
            obtain ⟨c0, c1, c2, c3, c4, c5, c6⟩ := seven HK.out.1
            obtain ⟨z0, z1, z2, z3, z4, z5, z6⟩ := seven HK.out.2.1
            obtain ⟨f0, f1, f2, f3, f4, f5, f6⟩ := seven_fr HK.out.2.1
            obtain ⟨y0, y1, y2, y3, y4, y5, y6⟩ := seven_fr HK.out.1
            have HK2 := Lib.hid (KJ.store HK.out 0 (.int .i64 (n : Int)))
            simp only [List.setIfInBounds_toArray, List.set_cons_zero] at HK2
            obtain ⟨⟨e0, e1, e2, e3, e4, e5, e6⟩, hbl⟩ := KJ.res HK2.out (.int .i64 (n : Int)) (.int .i64 b) (.int .i64 c) (.int .i64 d) (.int .i64 l) (.int .i64 r) (.int .i64 s)
            unfold put7 at e0 e1 e2 e3 e4 e5 e6 hbl
            go_wp2_with fail
            exact bodyPost_ret (v := .tuple #[.agg #[.int .i64 (n : Int), .int .i64 b, .int .i64 c, .int .i64 d, .int .i64 l, .int .i64 r, .int .i64 s], .bool true]) (by simp [results, Tryz.results85, go_sem, e0, e1, e2, e3, e4, e5, e6]) rfl ⟨rfl, hbl⟩
        · rw [if_pos ⟨hn0, rfl, by simp⟩]
          rw [show Iso.put ⟨a, b, c, d, l, r, s⟩ 1 n = ⟨a, n, c, d, l, r, s⟩ from rfl]
          simp only
          cases wide with
          | true =>
            go_enter Tryz.func85, Tryz.ntmps85
            go_wp2_with fail
            refine (HF.out _).mono ?_
            rintro e w1 ⟨rfl, rfl⟩
            generalize (w.alloc (.cells #[.int .i64 a, .int .i64 b, .int .i64 c, .int .i64 d, .int .i64 l, .int .i64 r, .int .i64 s] 25)).alloc (.cells #[.int .i64 0, .int .i64 0, .int .i64 0, .int .i64 0, .int .i64 0, .int .i64 0, .int .i64 0] 25) = w1 at *
            obtain ⟨c0, c1, c2, c3, c4, c5, c6⟩ := seven HK.out.1
            obtain ⟨z0, z1, z2, z3, z4, z5, z6⟩ := seven HK.out.2.1
            obtain ⟨f0, f1, f2, f3, f4, f5, f6⟩ := seven_fr HK.out.2.1
            obtain ⟨y0, y1, y2, y3, y4, y5, y6⟩ := seven_fr HK.out.1
            have HK2 := Lib.hid (KJ.store HK.out 1 (.int .i64 (n : Int)))
            simp only [List.setIfInBounds_toArray, List.set_cons_zero, List.set_cons_succ] at HK2
            obtain ⟨⟨e0, e1, e2, e3, e4, e5, e6⟩, hbl⟩ := KJ.res HK2.out (.int .i64 a) (.int .i64 (n : Int)) (.int .i64 c) (.int .i64 d) (.int .i64 l) (.int .i64 r) (.int .i64 s)
            unfold put7 at e0 e1 e2 e3 e4 e5 e6 hbl
            go_wp2_with fail
            exact bodyPost_ret (v := .tuple #[.agg #[.int .i64 a, .int .i64 (n : Int), .int .i64 c, .int .i64 d, .int .i64 l, .int .i64 r, .int .i64 s], .bool true]) (by simp [results, Tryz.results85, go_sem, e0, e1, e2, e3, e4, e5, e6]) rfl ⟨rfl, hbl⟩
          | false =>
            go_enter Tryz.func85, Tryz.ntmps85
            go_wp2_with fail
            refine (HF.out _).mono ?_
            rintro e w1 ⟨rfl, rfl⟩
            generalize (w.alloc (.cells #[.int .i64 a, .int .i64 b, .int .i64 c, .int .i64 d, .int .i64 l, .int .i64 r, .int .i64 s] 25)).alloc (.cells #[.int .i64 0, .int .i64 0, .int .i64 0, .int .i64 0, .int .i64 0, .int .i64 0, .int .i64 0] 25) = w1 at *
            obtain ⟨c0, c1, c2, c3, c4, c5, c6⟩ := seven HK.out.1
            obtain ⟨z0, z1, z2, z3, z4, z5, z6⟩ := seven HK.out.2.1
            obtain ⟨f0, f1, f2, f3, f4, f5, f6⟩ := seven_fr HK.out.2.1
            obtain ⟨y0, y1, y2, y3, y4, y5, y6⟩ := seven_fr HK.out.1
            have HK2 := Lib.hid (KJ.store HK.out 1 (.int .i64 (n : Int)))
            simp only [List.setIfInBounds_toArray, List.set_cons_zero, List.set_cons_succ] at HK2
            obtain ⟨⟨e0, e1, e2, e3, e4, e5, e6⟩, hbl⟩ := KJ.res HK2.out (.int .i64 a) (.int .i64 (n : Int)) (.int .i64 c) (.int .i64 d) (.int .i64 l) (.int .i64 r) (.int .i64 s)
            unfold put7 at e0 e1 e2 e3 e4 e5 e6 hbl
            go_wp2_with fail
            exact bodyPost_ret (v := .tuple #[.agg #[.int .i64 a, .int .i64 (n : Int), .int .i64 c, .int .i64 d, .int .i64 l, .int .i64 r, .int .i64 s], .bool true]) (by simp [results, Tryz.results85, go_sem, e0, e1, e2, e3, e4, e5, e6]) rfl ⟨rfl, hbl⟩
        · rw [if_pos ⟨hn0, rfl, by simp⟩]
          rw [show Iso.put ⟨a, b, c, d, l, r, s⟩ 2 n = ⟨a, b, n, d, l, r, s⟩ from rfl]
          simp only
          cases wide with
          | true =>
            go_enter Tryz.func85, Tryz.ntmps85
            go_wp2_with fail
            refine (HF.out _).mono ?_
            rintro e w1 ⟨rfl, rfl⟩
            generalize (w.alloc (.cells #[.int .i64 a, .int .i64 b, .int .i64 c, .int .i64 d, .int .i64 l, .int .i64 r, .int .i64 s] 25)).alloc (.cells #[.int .i64 0, .int .i64 0, .int .i64 0, .int .i64 0, .int .i64 0, .int .i64 0, .int .i64 0] 25) = w1 at *
            obtain ⟨c0, c1, c2, c3, c4, c5, c6⟩ := seven HK.out.1
            obtain ⟨z0, z1, z2, z3, z4, z5, z6⟩ := seven HK.out.2.1
            obtain ⟨f0, f1, f2, f3, f4, f5, f6⟩ := seven_fr HK.out.2.1
            obtain ⟨y0, y1, y2, y3, y4, y5, y6⟩ := seven_fr HK.out.1
            have HK2 := Lib.hid (KJ.store HK.out 2 (.int .i64 (n : Int)))
            simp only [List.setIfInBounds_toArray, List.set_cons_zero, List.set_cons_succ] at HK2
            obtain ⟨⟨e0, e1, e2, e3, e4, e5, e6⟩, hbl⟩ := KJ.res HK2.out (.int .i64 a) (.int .i64 b) (.int .i64 (n : Int)) (.int .i64 d) (.int .i64 l) (.int .i64 r) (.int .i64 s)
            unfold put7 at e0 e1 e2 e3 e4 e5 e6 hbl
            go_wp2_with fail
            exact bodyPost_ret (v := .tuple #[.agg #[.int .i64 a, .int .i64 b, .int .i64 (n : Int), .int .i64 d, .int .i64 l, .int .i64 r, .int .i64 s], .bool true]) (by simp [results, Tryz.results85, go_sem, e0, e1, e2, e3, e4, e5, e6]) rfl ⟨rfl, hbl⟩
          | false =>
            go_enter Tryz.func85, Tryz.ntmps85
            go_wp2_with fail
            refine (HF.out _).mono ?_
            rintro e w1 ⟨rfl, rfl⟩
            generalize (w.alloc (.cells #[.int .i64 a, .int .i64 b, .int .i64 c, .int .i64 d, .int .i64 l, .int .i64 r, .int .i64 s] 25)).alloc (.cells #[.int .i64 0, .int .i64 0, .int .i64 0, .int .i64 0, .int .i64 0, .int .i64 0, .int .i64 0] 25) = w1 at *
            obtain ⟨c0, c1, c2, c3, c4, c5, c6⟩ := seven HK.out.1
            obtain ⟨z0, z1, z2, z3, z4, z5, z6⟩ := seven HK.out.2.1
            obtain ⟨f0, f1, f2, f3, f4, f5, f6⟩ := seven_fr HK.out.2.1
            obtain ⟨y0, y1, y2, y3, y4, y5, y6⟩ := seven_fr HK.out.1
            have HK2 := Lib.hid (KJ.store HK.out 2 (.int .i64 (n : Int)))
            simp only [List.setIfInBounds_toArray, List.set_cons_zero, List.set_cons_succ] at HK2
            obtain ⟨⟨e0, e1, e2, e3, e4, e5, e6⟩, hbl⟩ := KJ.res HK2.out (.int .i64 a) (.int .i64 b) (.int .i64 (n : Int)) (.int .i64 d) (.int .i64 l) (.int .i64 r) (.int .i64 s)
            unfold put7 at e0 e1 e2 e3 e4 e5 e6 hbl
            go_wp2_with fail
            exact bodyPost_ret (v := .tuple #[.agg #[.int .i64 a, .int .i64 b, .int .i64 (n : Int), .int .i64 d, .int .i64 l, .int .i64 r, .int .i64 s], .bool true]) (by simp [results, Tryz.results85, go_sem, e0, e1, e2, e3, e4, e5, e6]) rfl ⟨rfl, hbl⟩
        · rw [if_pos ⟨hn0, rfl, by simp⟩]
          rw [show Iso.put ⟨a, b, c, d, l, r, s⟩ 3 n = ⟨a, b, c, n, l, r, s⟩ from rfl]
          simp only
          cases wide with
          | true =>
            go_enter Tryz.func85, Tryz.ntmps85
            go_wp2_with fail
            refine (HF.out _).mono ?_
            rintro e w1 ⟨rfl, rfl⟩
            generalize (w.alloc (.cells #[.int .i64 a, .int .i64 b, .int .i64 c, .int .i64 d, .int .i64 l, .int .i64 r, .int .i64 s] 25)).alloc (.cells #[.int .i64 0, .int .i64 0, .int .i64 0, .int .i64 0, .int .i64 0, .int .i64 0, .int .i64 0] 25) = w1 at *
            obtain ⟨c0, c1, c2, c3, c4, c5, c6⟩ := seven HK.out.1
            obtain ⟨z0, z1, z2, z3, z4, z5, z6⟩ := seven HK.out.2.1
            obtain ⟨f0, f1, f2, f3, f4, f5, f6⟩ := seven_fr HK.out.2.1
            obtain ⟨y0, y1, y2, y3, y4, y5, y6⟩ := seven_fr HK.out.1
            have HK2 := Lib.hid (KJ.store HK.out 3 (.int .i64 (n : Int)))
            simp only [List.setIfInBounds_toArray, List.set_cons_zero, List.set_cons_succ] at HK2
            obtain ⟨⟨e0, e1, e2, e3, e4, e5, e6⟩, hbl⟩ := KJ.res HK2.out (.int .i64 a) (.int .i64 b) (.int .i64 c) (.int .i64 (n : Int)) (.int .i64 l) (.int .i64 r) (.int .i64 s)
            unfold put7 at e0 e1 e2 e3 e4 e5 e6 hbl
            go_wp2_with fail
            exact bodyPost_ret (v := .tuple #[.agg #[.int .i64 a, .int .i64 b, .int .i64 c, .int .i64 (n : Int), .int .i64 l, .int .i64 r, .int .i64 s], .bool true]) (by simp [results, Tryz.results85, go_sem, e0, e1, e2, e3, e4, e5, e6]) rfl ⟨rfl, hbl⟩
          | false =>
            go_enter Tryz.func85, Tryz.ntmps85
            go_wp2_with fail
            refine (HF.out _).mono ?_
            rintro e w1 ⟨rfl, rfl⟩
            generalize (w.alloc (.cells #[.int .i64 a, .int .i64 b, .int .i64 c, .int .i64 d, .int .i64 l, .int .i64 r, .int .i64 s] 25)).alloc (.cells #[.int .i64 0, .int .i64 0, .int .i64 0, .int .i64 0, .int .i64 0, .int .i64 0, .int .i64 0] 25) = w1 at *
            obtain ⟨c0, c1, c2, c3, c4, c5, c6⟩ := seven HK.out.1
            obtain ⟨z0, z1, z2, z3, z4, z5, z6⟩ := seven HK.out.2.1
            obtain ⟨f0, f1, f2, f3, f4, f5, f6⟩ := seven_fr HK.out.2.1
            obtain ⟨y0, y1, y2, y3, y4, y5, y6⟩ := seven_fr HK.out.1
            have HK2 := Lib.hid (KJ.store HK.out 3 (.int .i64 (n : Int)))
            simp only [List.setIfInBounds_toArray, List.set_cons_zero, List.set_cons_succ] at HK2
            obtain ⟨⟨e0, e1, e2, e3, e4, e5, e6⟩, hbl⟩ := KJ.res HK2.out (.int .i64 a) (.int .i64 b) (.int .i64 c) (.int .i64 (n : Int)) (.int .i64 l) (.int .i64 r) (.int .i64 s)
            unfold put7 at e0 e1 e2 e3 e4 e5 e6 hbl
            go_wp2_with fail
            exact bodyPost_ret (v := .tuple #[.agg #[.int .i64 a, .int .i64 b, .int .i64 c, .int .i64 (n : Int), .int .i64 l, .int .i64 r, .int .i64 s], .bool true]) (by simp [results, Tryz.results85, go_sem, e0, e1, e2, e3, e4, e5, e6]) rfl ⟨rfl, hbl⟩
      · rw [if_neg (fun h => by have h1 := h.2.1; unfold isoInB at h1; simp at h1 g2; omega)]
        simp only
        go_enter Tryz.func85, Tryz.ntmps85
        go_wp2_with fail
        refine (HF.out _).mono ?_
        rintro e w1 ⟨rfl, rfl⟩
        generalize (w.alloc (.cells #[.int .i64 a, .int .i64 b, .int .i64 c, .int .i64 d, .int .i64 l, .int .i64 r, .int .i64 s] 25)).alloc (.cells #[.int .i64 0, .int .i64 0, .int .i64 0, .int .i64 0, .int .i64 0, .int .i64 0, .int .i64 0] 25) = w1 at *
        obtain ⟨c0, c1, c2, c3, c4, c5, c6⟩ := seven HK.out.1
        obtain ⟨z0, z1, z2, z3, z4, z5, z6⟩ := seven HK.out.2.1
        obtain ⟨f0, f1, f2, f3, f4, f5, f6⟩ := seven_fr HK.out.2.1
        obtain ⟨⟨e0, e1, e2, e3, e4, e5, e6⟩, hbl⟩ := KJ.res HK.out (.int .i64 a) (.int .i64 b) (.int .i64 c) (.int .i64 d) (.int .i64 l) (.int .i64 r) (.int .i64 s)
        unfold put7 at e0 e1 e2 e3 e4 e5 e6 hbl
        go_wp2_with fail
        exact bodyPost_ret (v := .tuple #[.agg #[.int .i64 a, .int .i64 b, .int .i64 c, .int .i64 d, .int .i64 l, .int .i64 r, .int .i64 s], .bool false]) (by simp [results, Tryz.results85, go_sem, e0, e1, e2, e3, e4, e5, e6]) rfl ⟨rfl, hbl⟩
    · rw [if_neg (fun h => by have h1 := h.2.1; unfold isoInB at h1; simp at h1 g1; omega)]
      simp only
      go_enter Tryz.func85, Tryz.ntmps85
      go_wp2_with fail
      refine (HF.out _).mono ?_
      rintro e w1 ⟨rfl, rfl⟩
      generalize (w.alloc (.cells #[.int .i64 a, .int .i64 b, .int .i64 c, .int .i64 d, .int .i64 l, .int .i64 r, .int .i64 s] 25)).alloc (.cells #[.int .i64 0, .int .i64 0, .int .i64 0, .int .i64 0, .int .i64 0, .int .i64 0, .int .i64 0] 25) = w1 at *
      obtain ⟨c0, c1, c2, c3, c4, c5, c6⟩ := seven HK.out.1
      obtain ⟨z0, z1, z2, z3, z4, z5, z6⟩ := seven HK.out.2.1
      obtain ⟨f0, f1, f2, f3, f4, f5, f6⟩ := seven_fr HK.out.2.1
      obtain ⟨⟨e0, e1, e2, e3, e4, e5, e6⟩, hbl⟩ := KJ.res HK.out (.int .i64 a) (.int .i64 b) (.int .i64 c) (.int .i64 d) (.int .i64 l) (.int .i64 r) (.int .i64 s)
      unfold put7 at e0 e1 e2 e3 e4 e5 e6 hbl
      go_wp2_with fail
      exact bodyPost_ret (v := .tuple #[.agg #[.int .i64 a, .int .i64 b, .int .i64 c, .int .i64 d, .int .i64 l, .int .i64 r, .int .i64 s], .bool false]) (by simp [results, Tryz.results85, go_sem, e0, e1, e2, e3, e4, e5, e6]) rfl ⟨rfl, hbl⟩
  · rw [if_neg (fun h => by have h1 := h.1; simp at hn; exact h1 hn)]
    simp only
    go_enter Tryz.func85, Tryz.ntmps85
    go_wp2_with fail
    refine (HF.out _).mono ?_
    rintro e w1 ⟨rfl, rfl⟩
    generalize (w.alloc (.cells #[.int .i64 a, .int .i64 b, .int .i64 c, .int .i64 d, .int .i64 l, .int .i64 r, .int .i64 s] 25)).alloc (.cells #[.int .i64 0, .int .i64 0, .int .i64 0, .int .i64 0, .int .i64 0, .int .i64 0, .int .i64 0] 25) = w1 at *
    obtain ⟨c0, c1, c2, c3, c4, c5, c6⟩ := seven HK.out.1
    obtain ⟨z0, z1, z2, z3, z4, z5, z6⟩ := seven HK.out.2.1
    obtain ⟨f0, f1, f2, f3, f4, f5, f6⟩ := seven_fr HK.out.2.1
    obtain ⟨⟨e0, e1, e2, e3, e4, e5, e6⟩, hbl⟩ := KJ.res HK.out (.int .i64 a) (.int .i64 b) (.int .i64 c) (.int .i64 d) (.int .i64 l) (.int .i64 r) (.int .i64 s)
    unfold put7 at e0 e1 e2 e3 e4 e5 e6 hbl
    go_wp2_with fail
    exact bodyPost_ret (v := .tuple #[.agg #[.int .i64 a, .int .i64 b, .int .i64 c, .int .i64 d, .int .i64 l, .int .i64 r, .int .i64 s], .bool false]) (by simp [results, Tryz.results85, go_sem, e0, e1, e2, e3, e4, e5, e6]) rfl ⟨rfl, hbl⟩
end Go.Proofs.YtfnamfkjbkhgeaaGreatDoor

namespace Go.Proofs.YtfnamfkjbkhgeaaGreatDoor

open Go Go.RowKit

/-- An id of two letters lies ahead. -/
def pfxB (s : ByteArray) : Bool := if 1 ≤ s.size then (s.extract 0 1).toList == [37] else false
def cutN (s : ByteArray) : Nat := if pfxB s = true then 2 else 1
def cutP (s : ByteArray) : ByteArray × ByteArray := if s.size < cutN s then (⟨#[]⟩, ⟨#[]⟩) else (s.extract 0 (cutN s), s.extract (cutN s) s.size)
set_option maxHeartbeats 2000000 in
theorem pfxS_any (s : ByteArray) (w : World) : Calls Tryz.prog 171 #[.string s, .string ⟨#[37]⟩] w fun e w' => e = .returned (.bool (pfxB s)) ∧ w = w' := by
  unfold pfxB
  have hz : (ByteArray.mk #[37]).size = 1 := rfl
  by_cases h : 1 ≤ s.size
  · rw [if_pos h]
    have g0 : decide ((1 : Int) ≤ (s.size : Int)) = true := by simp; omega
    have g1 : (1 : Int) ≤ (s.size : Int) := by omega
    go_enter Tryz.func171, Tryz.ntmps171
    go_wp2_with fail
    go_ret
    exact ⟨rfl, rfl⟩
  · rw [if_neg h]
    have g0 : decide ((1 : Int) ≤ (s.size : Int)) = false := by simp; omega
    go_enter Tryz.func171, Tryz.ntmps171
    go_wp2_with fail
    go_ret
    exact ⟨rfl, rfl⟩
theorem pfx_any (s : ByteArray) (w : World) : Calls Tryz.prog 143 #[.string s, .string ⟨#[37]⟩] w fun e w' => e = .returned (.bool (pfxB s)) ∧ w = w' := by
  have HP := Lib.hid (fun W => pfxS_any s W)
  go_enter Tryz.func143, Tryz.ntmps143
  go_wp2_with fail
  refine (HP.out _).mono ?_
  rintro e w1 ⟨rfl, rfl⟩
  go_wp2_with fail
  go_ret
  exact ⟨rfl, rfl⟩
def cutV (p : ByteArray × ByteArray) : Value := .tuple #[.string p.1, .string p.2]
set_option maxHeartbeats 4000000 in
theorem cutId_any (s : ByteArray) (w : World) : Calls Tryz.prog 115 #[.string s] w fun e w' => e = .returned (cutV (cutP s)) ∧ Below w.heap.size w w' := by
  have HP := Lib.hid (fun W => pfx_any s W)
  unfold cutV
  rcases hp : pfxB s with _ | _
  · rw [hp] at HP
    have e1 : cutN s = 1 := by unfold cutN; rw [hp]; rfl
    by_cases h : s.size < 1
    · rw [show cutP s = (⟨#[]⟩, ⟨#[]⟩) from by unfold cutP; rw [e1]; exact if_pos h]
      have g0 : decide ((s.size : Int) < 1) = true := by simp; omega
      clear hp h e1
      go_enter Tryz.func115, Tryz.ntmps115
      go_wp2_with fail
      refine (HP.out _).mono ?_
      rintro e w1 ⟨rfl, rfl⟩
      go_wp2_with fail
      exact bodyPost_ret (v := .tuple #[.string ⟨#[]⟩, .string ⟨#[]⟩]) (by simp [results, Tryz.results115, go_sem]) rfl ⟨rfl, Below.refl _ _⟩
    · rw [show cutP s = (s.extract 0 1, s.extract 1 s.size) from by unfold cutP; rw [e1]; exact if_neg h]
      have g0 : decide ((s.size : Int) < 1) = false := by simp; omega
      have g1 : 1 ≤ s.size := by omega
      have g2 : (1 : Int) ≤ (s.size : Int) := by omega
      clear hp h e1
      go_enter Tryz.func115, Tryz.ntmps115
      go_wp2_with fail
      refine (HP.out _).mono ?_
      rintro e w1 ⟨rfl, rfl⟩
      go_wp2_with fail
      refine wp_region_mix_lit (by kernel_rfl) [] (by kernel_rfl) (by kernel_rfl) (by kernel_rfl) (by rfl) (by simp [apartK] <;> omega) (by simp [startK]) (by simp [stabK]) (⟨fun _ => undef, by simp [okK]⟩) (fun β hβ => ?_)
      repeat (
        refine lex_val (v := ?_) rfl rfl (fun w' hf => ?_) ?_
        rotate_left
        · go_simp
          try rfl
        try simp only [Act.put, List.setIfInBounds_toArray, List.set_cons_zero, List.set_cons_succ])
      refine lex_nil fun w' he => ?_
      have HB := Lib.hid (he.only.below0)
      clear he
      go_wp2_with fail
      exact bodyPost_ret (v := .tuple #[.string (s.extract 0 1), .string (s.extract 1 s.size)]) (by simp [results, Tryz.results115, go_sem]) rfl ⟨rfl, HB.out⟩
  · rw [hp] at HP
    have e1 : cutN s = 2 := by unfold cutN; rw [hp]; rfl
    by_cases h : s.size < 2
    · rw [show cutP s = (⟨#[]⟩, ⟨#[]⟩) from by unfold cutP; rw [e1]; exact if_pos h]
      have g0 : decide ((s.size : Int) < 2) = true := by simp; omega
      clear hp h e1
      go_enter Tryz.func115, Tryz.ntmps115
      go_wp2_with fail
      refine (HP.out _).mono ?_
      rintro e w1 ⟨rfl, rfl⟩
      go_wp2_with fail
      exact bodyPost_ret (v := .tuple #[.string ⟨#[]⟩, .string ⟨#[]⟩]) (by simp [results, Tryz.results115, go_sem]) rfl ⟨rfl, Below.refl _ _⟩
    · rw [show cutP s = (s.extract 0 2, s.extract 2 s.size) from by unfold cutP; rw [e1]; exact if_neg h]
      have g0 : decide ((s.size : Int) < 2) = false := by simp; omega
      have g1 : 2 ≤ s.size := by omega
      have g2 : (2 : Int) ≤ (s.size : Int) := by omega
      clear hp h e1
      go_enter Tryz.func115, Tryz.ntmps115
      go_wp2_with fail
      refine (HP.out _).mono ?_
      rintro e w1 ⟨rfl, rfl⟩
      go_wp2_with fail
      refine wp_region_mix_lit (by kernel_rfl) [] (by kernel_rfl) (by kernel_rfl) (by kernel_rfl) (by rfl) (by simp [apartK] <;> omega) (by simp [startK]) (by simp [stabK]) (⟨fun _ => undef, by simp [okK]⟩) (fun β hβ => ?_)
      repeat (
        refine lex_val (v := ?_) rfl rfl (fun w' hf => ?_) ?_
        rotate_left
        · go_simp
          try rfl
        try simp only [Act.put, List.setIfInBounds_toArray, List.set_cons_zero, List.set_cons_succ])
      refine lex_nil fun w' he => ?_
      have HB := Lib.hid (he.only.below0)
      clear he
      go_wp2_with fail
      exact bodyPost_ret (v := .tuple #[.string (s.extract 0 2), .string (s.extract 2 s.size)]) (by simp [results, Tryz.results115, go_sem]) rfl ⟨rfl, HB.out⟩
end Go.Proofs.YtfnamfkjbkhgeaaGreatDoor

namespace Go.Proofs.YtfnamfkjbkhgeaaGreatDoor

open Go Go.RowKit

def bitB (sz g : Nat) : Bool := (sz - 64) / 2 ^ g % 2 == 1
/-- One round: a set is designated by the id that lies ahead. -/
def stepR (sz g : Nat) (x : Iso) (s : ByteArray) : Option (Iso × ByteArray) :=
  if (desP x g (bitB sz g) (cutP s).1).2 = true then some ((desP x g (bitB sz g) (cutP s).1).1, (cutP s).2) else none
/-- So many rounds, from one on. -/
def runR (sz : Nat) : Nat → Nat → Iso → ByteArray → Option (Iso × ByteArray)
  | 0, _, x, s => some (x, s)
  | k + 1, g, x, s => (stepR sz g x s).bind fun p => runR sz k (g + 1) p.1 p.2
def Iso.lr (x : Iso) (l r : Int) : Iso := { x with l := l, r := r }
def restP (x : Iso) (gl gr : Int) (sz : Nat) (s : ByteArray) : Iso × Bool :=
  if isoInB 0 gl = true ∧ isoInB 1 gr = true ∧ 64 ≤ sz ∧ sz ≤ 79 then
    match runR sz 4 0 (x.lr gl gr) s with
    | some p => if p.2.size = 0 then (p.1, true) else (x, false)
    | none => (x, false)
  else (x, false)
theorem put_lr (x : Iso) (l r g n : Int) : (x.lr l r).put g n = (x.put g n).lr l r := by
  unfold Iso.put Iso.lr
  split
  · rfl
  · split
    · rfl
    · split <;> rfl
theorem des_lr (x : Iso) (l r g : Int) (wide : Bool) (id : ByteArray) : desP (x.lr l r) g wide id = ((desP x g wide id).1.lr l r, (desP x g wide id).2) := by
  unfold desP
  split
  · simp only [put_lr]
  · rfl
theorem step_lr (sz g : Nat) (x : Iso) (l r : Int) (s : ByteArray) : stepR sz g (x.lr l r) s = (stepR sz g x s).map fun p => (p.1.lr l r, p.2) := by
  unfold stepR
  rw [des_lr]
  simp only
  split <;> rfl
theorem run_lr (sz : Nat) (l r : Int) : ∀ k g (x : Iso) s, runR sz k g (x.lr l r) s = (runR sz k g x s).map fun p => (p.1.lr l r, p.2)
  | 0, _, _, _ => rfl
  | k + 1, g, x, s => by
    unfold runR
    rw [step_lr]
    cases h : stepR sz g x s with
    | none => rfl
    | some p =>
      show runR sz k (g + 1) (p.1.lr l r) p.2 = _
      rw [run_lr sz l r k]
      rfl
/-- No id finds no set. -/
theorem des_empty (x : Iso) (g : Int) (wide : Bool) : desP x g wide ⟨#[]⟩ = (x, false) := by
  unfold desP
  rw [if_neg]
  intro h
  apply h.1
  rw [met_eq]
  cases wide with
  | true => decide +kernel
  | false => decide +kernel
theorem isoLeft_in (x : Iso) : isoInB 0 (leftP x) = true := by
  unfold leftP
  split
  · assumption
  · rfl
theorem isoRight_in (x : Iso) (h : 0 < rightP x) : isoInB 1 (rightP x) = true := by
  unfold rightP at *
  split
  · rename_i h1
    rw [if_pos h1] at h
    unfold isoInB at *
    simp at *
    omega
  · rfl
theorem id_form : ∀ k, k < 18 → 1 ≤ k → ((cIdP k).data.toList.length == 1 && (cIdP k).data.toList.headD 0 != 37 || (cIdP k).data.toList.length == 2 && (cIdP k).data.toList.headD 0 == 37) = true := by decide +kernel
theorem ext_list (s : ByteArray) (a b : Nat) : (s.extract a b).data.toList = (s.data.toList.take b).drop a := by
  rw [ByteArray.data_extract, Array.toList_extract, List.extract_eq_take_drop]
  rw [List.drop_take]
theorem isoBa_ext {s t : ByteArray} (h : s.data.toList = t.data.toList) : s = t := ByteArray.ext (Array.ext' h)
theorem app_list (s t : ByteArray) : (s ++ t).data.toList = s.data.toList ++ t.data.toList := by
  rw [ByteArray.data_append, Array.toList_append]
theorem size_list (s : ByteArray) : s.size = s.data.toList.length := rfl
theorem pfx_list (s : ByteArray) : pfxB s = (s.data.toList.head? == some 37) := by
  unfold pfxB
  rw [size_list, ByteArray.toList_eq, ext_list]
  generalize s.data.toList = l
  cases l with
  | nil => rfl
  | cons x l =>
    rw [if_pos (by simp)]
    simp only [List.take_succ_cons, List.take_zero, List.drop_zero, List.head?_cons]
    rw [Bool.eq_iff_iff, beq_iff_eq, beq_iff_eq]
    simp
theorem cutP_id (k : Nat) (h : k < 18) (h1 : 1 ≤ k) (t : ByteArray) : cutP (cIdP k ++ t) = (cIdP k, t) := by
  have hf := id_form k h h1
  have hn : cutN (cIdP k ++ t) = (cIdP k).size := by
    unfold cutN
    rw [pfx_list, size_list, app_list]
    generalize (cIdP k).data.toList = l at *
    match l with
    | [] => simp at hf
    | [x] =>
      simp at hf
      rw [if_neg (by simpa using hf)]
      rfl
    | [x, y] =>
      simp at hf
      rw [if_pos (by simpa using hf)]
      rfl
    | x :: y :: z :: l => simp at hf
  unfold cutP
  rw [hn, if_neg (by rw [ByteArray.size_append]; omega)]
  congr 1
  · apply isoBa_ext
    rw [ext_list, app_list, size_list]
    simp
  · apply isoBa_ext
    rw [ext_list, app_list, ByteArray.size_append, size_list, size_list]
    rw [List.take_of_length_le (by simp)]
    simp
theorem bit_siz (x : Iso) : ∀ g, g < 4 → bitB (sizP x 4) g = wideP (setN (x.at_ g)) := by
  intro g hg
  have e : sizP x 4 = 64 + (if wideP (setN (x.at_ 0)) = true then 1 else 0) + (if wideP (setN (x.at_ 1)) = true then 2 else 0) + (if wideP (setN (x.at_ 2)) = true then 4 else 0) + (if wideP (setN (x.at_ 3)) = true then 8 else 0) := rfl
  rw [e]
  have hs : g = 0 ∨ g = 1 ∨ g = 2 ∨ g = 3 := by omega
  rcases hs with rfl | rfl | rfl | rfl
  all_goals
    show bitB _ _ = wideP (setN (x.at_ _))
    cases wideP (setN (x.at_ 0)) <;> cases wideP (setN (x.at_ 1)) <;> cases wideP (setN (x.at_ 2)) <;> cases wideP (setN (x.at_ 3)) <;> rfl
/-- A state that can be told and brought back. -/
def goodI (x : Iso) : Prop := ∀ g : Nat, g < 4 → 1 ≤ x.at_ (g : Int) ∧ x.at_ (g : Int) ≤ 17 ∧ ((g : Int) = 0 → x.at_ 0 ≠ 5)
theorem des_good (x y : Iso) (h : goodI x) (g : Nat) (hg : g < 4) : desP y g (wideP (setN (x.at_ g))) (cIdP (setN (x.at_ g))) = (y.put g (x.at_ g), true) := by
  obtain ⟨h1, h2, h3⟩ := h g hg
  have hk := setN_in _ ⟨h1, h2⟩
  unfold desP
  rw [id_back _ (by omega), if_pos, hk.1]
  refine ⟨by omega, by unfold isoInB; simp; omega, ?_⟩
  rintro ⟨e, hw⟩
  apply h3 e
  rw [e] at hw hk
  unfold wideP at hw
  have : setN (x.at_ 0) = 5 := by simpa using hw
  rw [this] at hk
  exact hk.1.symm
theorem step_good (x y : Iso) (h : goodI x) (g : Nat) (hg : g < 4) (t : ByteArray) : stepR (sizP x 4) g y (cIdP (setN (x.at_ g)) ++ t) = some (y.put g (x.at_ g), t) := by
  have hk := setN_in _ ⟨(h g hg).1, (h g hg).2.1⟩
  unfold stepR
  rw [cutP_id _ (by omega) hk.2.1, bit_siz x g hg]
  simp only
  rw [des_good x y h g hg]
  rfl
theorem app_nil (s : ByteArray) : s ++ ⟨#[]⟩ = s := isoBa_ext (by rw [app_list]; simp)
theorem nil_app (s : ByteArray) : (⟨#[]⟩ : ByteArray) ++ s = s := isoBa_ext (by rw [app_list]; simp)
theorem run_good (x y : Iso) (h : goodI x) : runR (sizP x 4) 4 0 y (idtP x 4) = some (⟨x.a, x.b, x.c, x.d, y.l, y.r, y.s⟩, ⟨#[]⟩) := by
  have e : idtP x 4 = cIdP (setN (x.at_ (0 : Nat))) ++ (cIdP (setN (x.at_ (1 : Nat))) ++ (cIdP (setN (x.at_ (2 : Nat))) ++ (cIdP (setN (x.at_ (3 : Nat))) ++ ⟨#[]⟩))) := by
    apply isoBa_ext
    show ((((⟨#[]⟩ ++ cIdP _) ++ cIdP _) ++ cIdP _) ++ cIdP _ : ByteArray).data.toList = _
    simp only [app_list, List.append_assoc]
    simp
  rw [e]
  unfold runR
  rw [step_good x y h 0 (by omega)]
  show runR _ 3 1 _ _ = _
  unfold runR
  rw [step_good x _ h 1 (by omega)]
  show runR _ 2 2 _ _ = _
  unfold runR
  rw [step_good x _ h 2 (by omega)]
  show runR _ 1 3 _ _ = _
  unfold runR
  rw [step_good x _ h 3 (by omega)]
  rfl
theorem rest_good (x y : Iso) (h : goodI x) (hr : 0 < rightP x) : restP y (leftP x) (rightP x) (sizP x 4) (idtP x 4) = (⟨x.a, x.b, x.c, x.d, leftP x, rightP x, y.s⟩, true) := by
  unfold restP
  have hz := siz_le x 4
  rw [if_pos ⟨isoLeft_in x, isoRight_in x hr, hz.2, by omega⟩, run_good x _ h]
  rfl
end Go.Proofs.YtfnamfkjbkhgeaaGreatDoor

/-
  States of sets: a set is designated.
-/
import Derived.Test.YtfnamfkjbkhgeaaGreatDoorIsoA
import Derived.Deep.RegionHeld3
import Derived.Deep.DeepCutAuto
namespace Go.Proofs.YtfnamfkjbkhgeaaGreatDoor

open Go Go.RowKit

theorem seven {w : World} {g : Nat} {T : TypeId} {v0 v1 v2 v3 v4 v5 v6 : Value} (h : Blk w g T #[v0, v1, v2, v3, v4, v5, v6]) :
    w.cell? ⟨g, 0, none⟩ = some v0 ∧ w.cell? ⟨g, 1, none⟩ = some v1 ∧ w.cell? ⟨g, 2, none⟩ = some v2 ∧ w.cell? ⟨g, 3, none⟩ = some v3 ∧ w.cell? ⟨g, 4, none⟩ = some v4 ∧ w.cell? ⟨g, 5, none⟩ = some v5 ∧ w.cell? ⟨g, 6, none⟩ = some v6 :=
  ⟨h.cell 0, h.cell 1, h.cell 2, h.cell 3, h.cell 4, h.cell 5, h.cell 6⟩
theorem seven_fr {w : World} {g : Nat} {T : TypeId} {cs : Array Value} (h : Blk w g T cs) :
    w.frozen? ⟨g, 0, none⟩ = false ∧ w.frozen? ⟨g, 1, none⟩ = false ∧ w.frozen? ⟨g, 2, none⟩ = false ∧ w.frozen? ⟨g, 3, none⟩ = false ∧ w.frozen? ⟨g, 4, none⟩ = false ∧ w.frozen? ⟨g, 5, none⟩ = false ∧ w.frozen? ⟨g, 6, none⟩ = false :=
  ⟨h.frozen 0, h.frozen 1, h.frozen 2, h.frozen 3, h.frozen 4, h.frozen 5, h.frozen 6⟩
def put7 (w : World) (g : Nat) (v0 v1 v2 v3 v4 v5 v6 : Value) : World := ((((((w.setCell ⟨g, 0, none⟩ v0).setCell ⟨g, 1, none⟩ v1).setCell ⟨g, 2, none⟩ v2).setCell ⟨g, 3, none⟩ v3).setCell ⟨g, 4, none⟩ v4).setCell ⟨g, 5, none⟩ v5).setCell ⟨g, 6, none⟩ v6
theorem put7_blk {w : World} {g : Nat} {T : TypeId} {u0 u1 u2 u3 u4 u5 u6 : Value} (h : Blk w g T #[u0, u1, u2, u3, u4, u5, u6]) (v0 v1 v2 v3 v4 v5 v6 : Value) : Blk (put7 w g v0 v1 v2 v3 v4 v5 v6) g T #[v0, v1, v2, v3, v4, v5, v6] := by
  have := ((((((h.set_ 0 v0).set_ 1 v1).set_ 2 v2).set_ 3 v3).set_ 4 v4).set_ 5 v5).set_ 6 v6
  simp only [List.setIfInBounds_toArray, List.set_cons_zero, List.set_cons_succ] at this
  exact this
theorem put7_below {w W : World} {B g : Nat} (h : Below B w W) (hg : B ≤ g) (v0 v1 v2 v3 v4 v5 v6 : Value) : Below B w (put7 W g v0 v1 v2 v3 v4 v5 v6) :=
  ((((((h.setCell (p := ⟨g, 0, none⟩) hg v0).setCell (p := ⟨g, 1, none⟩) hg v1).setCell (p := ⟨g, 2, none⟩) hg v2).setCell (p := ⟨g, 3, none⟩) hg v3).setCell (p := ⟨g, 4, none⟩) hg v4).setCell (p := ⟨g, 5, none⟩) hg v5).setCell (p := ⟨g, 6, none⟩) hg v6
def Iso.put (x : Iso) (g : Int) (n : Int) : Iso := if g = 0 then { x with a := n } else if g = 1 then { x with b := n } else if g = 2 then { x with c := n } else { x with d := n }
/-- A set designated, or not. -/
def desP (x : Iso) (g : Int) (wide : Bool) (id : ByteArray) : Iso × Bool := if fndP (metP wide id) ≠ 0 ∧ isoInB 0 g = true ∧ ¬ (g = 0 ∧ wide = true) then (x.put g (fndP (metP wide id)), true) else (x, false)
def desV (p : Iso × Bool) : Value := .tuple #[p.1.val, .bool p.2]
/-- What is known in its midst. -/
def KI (w : World) (x : Array Value) (w' : World) : Prop := Blk w' w.heap.size 38 x ∧ Blk w' (w.heap.size + 1) 38 #[.int .i64 0, .int .i64 0, .int .i64 0, .int .i64 0, .int .i64 0, .int .i64 0, .int .i64 0] ∧ Below w.heap.size w w'
theorem KI.start (w : World) (x : Array Value) : KI w x ((w.alloc (.cells x 38)).alloc (.cells #[.int .i64 0, .int .i64 0, .int .i64 0, .int .i64 0, .int .i64 0, .int .i64 0, .int .i64 0] 38)) :=
  ⟨(Blk.new w _ x).alloc _, by have := Blk.new (w.alloc (.cells x 38)) 38 #[.int .i64 0, .int .i64 0, .int .i64 0, .int .i64 0, .int .i64 0, .int .i64 0, .int .i64 0]; simpa using this, ((Below.refl _ _).alloc (Nat.le_refl _) _).alloc (by simp) _⟩
theorem KI.next {w W w' : World} {x : Array Value} (h : KI w x W) (hb : Below W.heap.size W w') : KI w x w' := ⟨h.1.next hb, h.2.1.next hb, h.2.2.trans (hb.mono h.2.2.size)⟩
theorem KI.store {w W : World} {a b c d l r s : Value} (h : KI w #[a, b, c, d, l, r, s] W) (k : Nat) (v : Value) : KI w (#[a, b, c, d, l, r, s].setIfInBounds k v) (W.setCell ⟨w.heap.size, k, none⟩ v) :=
  ⟨h.1.set_ k v, Blk.far h.2.1 (by simp) _, h.2.2.setCell (by simp) _⟩
theorem KI.res {w W : World} {x : Array Value} (h : KI w x W) (v0 v1 v2 v3 v4 v5 v6 : Value) :
    ((put7 W (w.heap.size + 1) v0 v1 v2 v3 v4 v5 v6).cell? ⟨w.heap.size + 1, 0, none⟩ = some v0 ∧ (put7 W (w.heap.size + 1) v0 v1 v2 v3 v4 v5 v6).cell? ⟨w.heap.size + 1, 1, none⟩ = some v1 ∧ (put7 W (w.heap.size + 1) v0 v1 v2 v3 v4 v5 v6).cell? ⟨w.heap.size + 1, 2, none⟩ = some v2 ∧ (put7 W (w.heap.size + 1) v0 v1 v2 v3 v4 v5 v6).cell? ⟨w.heap.size + 1, 3, none⟩ = some v3 ∧ (put7 W (w.heap.size + 1) v0 v1 v2 v3 v4 v5 v6).cell? ⟨w.heap.size + 1, 4, none⟩ = some v4 ∧ (put7 W (w.heap.size + 1) v0 v1 v2 v3 v4 v5 v6).cell? ⟨w.heap.size + 1, 5, none⟩ = some v5 ∧ (put7 W (w.heap.size + 1) v0 v1 v2 v3 v4 v5 v6).cell? ⟨w.heap.size + 1, 6, none⟩ = some v6) ∧ Below w.heap.size w (put7 W (w.heap.size + 1) v0 v1 v2 v3 v4 v5 v6) :=
  ⟨seven (put7_blk h.2.1 v0 v1 v2 v3 v4 v5 v6), put7_below h.2.2 (by omega) _ _ _ _ _ _ _⟩
set_option maxRecDepth 100000 in
set_option maxHeartbeats 8000000 in
theorem designate_any (x : Iso) (g : Int) (wide : Bool) (id : ByteArray) (w : World) (ht : Faces w) (hs : Blanks w) :
    Calls Tryz.prog 116 #[x.val, .int .i64 g, .bool wide, .string id] w fun e w' => e = .returned (desV (desP x g wide id)) ∧ Below w.heap.size w w' := by
  have HF := Lib.hid (fun W t s => find_any wide id W t s)
  have HI := Lib.hid (fun W => isOne_any g W)
  unfold desP desV
  generalize fndP (metP wide id) = n at *
  have HK := Lib.hid (KI.start w x.cs)
  have HT := Lib.hid ht; have HS := Lib.hid hs
  clear ht hs
  obtain ⟨a, b, c, d, l, r, s⟩ := x
  unfold Iso.val Iso.cs at *
  simp only at HK ⊢
  rcases hn : (n != 0) with _ | _
  · rw [hn] at HF
    rw [if_neg (fun h => by have h1 := h.1; simp at hn; exact h1 hn)]
    clear hn
    simp only
    go_enter Tryz.func116, Tryz.ntmps116
    go_wp2_with fail
    refine (HF.out _ (HT.out.next HK.out.2.2) (HS.out.next HK.out.2.2)).mono ?_
    rintro e w1 ⟨rfl, hb1⟩
    have HK1 := Lib.hid (HK.out.next hb1)
    clear hb1
    obtain ⟨c0, c1, c2, c3, c4, c5, c6⟩ := seven HK1.out.1
    obtain ⟨z0, z1, z2, z3, z4, z5, z6⟩ := seven HK1.out.2.1
    obtain ⟨f0, f1, f2, f3, f4, f5, f6⟩ := seven_fr HK1.out.2.1
    obtain ⟨⟨e0, e1, e2, e3, e4, e5, e6⟩, hbl⟩ := KI.res HK1.out (.int .i64 a) (.int .i64 b) (.int .i64 c) (.int .i64 d) (.int .i64 l) (.int .i64 r) (.int .i64 s)
    unfold put7 at e0 e1 e2 e3 e4 e5 e6 hbl
    go_wp2_with fail
    exact bodyPost_ret (v := .tuple #[.agg #[.int .i64 a, .int .i64 b, .int .i64 c, .int .i64 d, .int .i64 l, .int .i64 r, .int .i64 s], .bool false]) (by simp [results, Tryz.results116, go_sem, e0, e1, e2, e3, e4, e5, e6]) rfl ⟨rfl, hbl⟩
  · rw [hn] at HF
    have hn0 : n ≠ 0 := by simpa using hn
    clear hn
    rcases ho : isoInB 0 g with _ | _
    · rw [ho] at HI
      rw [if_neg (fun h => by cases h.2.1)]
      clear ho
      simp only
      go_enter Tryz.func116, Tryz.ntmps116
      go_wp2_with fail
      refine (HF.out _ (HT.out.next HK.out.2.2) (HS.out.next HK.out.2.2)).mono ?_
      rintro e w1 ⟨rfl, hb1⟩
      have HK1 := Lib.hid (HK.out.next hb1)
      clear hb1
      obtain ⟨c0, c1, c2, c3, c4, c5, c6⟩ := seven HK1.out.1
      obtain ⟨z0, z1, z2, z3, z4, z5, z6⟩ := seven HK1.out.2.1
      obtain ⟨f0, f1, f2, f3, f4, f5, f6⟩ := seven_fr HK1.out.2.1
      go_wp2_with fail
      refine (HI.out _).mono ?_
      rintro e w2 ⟨rfl, rfl⟩
      obtain ⟨⟨e0, e1, e2, e3, e4, e5, e6⟩, hbl⟩ := KI.res HK1.out (.int .i64 a) (.int .i64 b) (.int .i64 c) (.int .i64 d) (.int .i64 l) (.int .i64 r) (.int .i64 s)
      unfold put7 at e0 e1 e2 e3 e4 e5 e6 hbl
      go_wp2_with fail
      exact bodyPost_ret (v := .tuple #[.agg #[.int .i64 a, .int .i64 b, .int .i64 c, .int .i64 d, .int .i64 l, .int .i64 r, .int .i64 s], .bool false]) (by simp [results, Tryz.results116, go_sem, e0, e1, e2, e3, e4, e5, e6]) rfl ⟨rfl, hbl⟩
    · rw [ho] at HI
      have hg : g = 0 ∨ g = 1 ∨ g = 2 ∨ g = 3 := by unfold isoInB at ho; simp at ho; omega
      clear ho
      rcases hg with rfl | rfl | rfl | rfl
      · cases wide with
        | true =>
          rw [if_neg (fun h => h.2.2 ⟨rfl, rfl⟩)]
          simp only
          go_enter Tryz.func116, Tryz.ntmps116
          go_wp2_with fail
          refine (HF.out _ (HT.out.next HK.out.2.2) (HS.out.next HK.out.2.2)).mono ?_
          rintro e w1 ⟨rfl, hb1⟩
          have HK1 := Lib.hid (HK.out.next hb1)
          clear hb1
          obtain ⟨c0, c1, c2, c3, c4, c5, c6⟩ := seven HK1.out.1
          obtain ⟨z0, z1, z2, z3, z4, z5, z6⟩ := seven HK1.out.2.1
          obtain ⟨f0, f1, f2, f3, f4, f5, f6⟩ := seven_fr HK1.out.2.1
          go_wp2_with fail
          refine (HI.out _).mono ?_
          rintro e w2 ⟨rfl, rfl⟩
          obtain ⟨⟨e0, e1, e2, e3, e4, e5, e6⟩, hbl⟩ := KI.res HK1.out (.int .i64 a) (.int .i64 b) (.int .i64 c) (.int .i64 d) (.int .i64 l) (.int .i64 r) (.int .i64 s)
          unfold put7 at e0 e1 e2 e3 e4 e5 e6 hbl
          go_wp2_with fail
          exact bodyPost_ret (v := .tuple #[.agg #[.int .i64 a, .int .i64 b, .int .i64 c, .int .i64 d, .int .i64 l, .int .i64 r, .int .i64 s], .bool false]) (by simp [results, Tryz.results116, go_sem, e0, e1, e2, e3, e4, e5, e6]) rfl ⟨rfl, hbl⟩
        | false =>
          rw [if_pos ⟨hn0, rfl, by simp⟩]
          rw [show Iso.put ⟨a, b, c, d, l, r, s⟩ 0 n = ⟨n, b, c, d, l, r, s⟩ from rfl]
          simp only
          go_enter Tryz.func116, Tryz.ntmps116
          go_wp2_with fail
          refine (HF.out _ (HT.out.next HK.out.2.2) (HS.out.next HK.out.2.2)).mono ?_
          rintro e w1 ⟨rfl, hb1⟩
          have HK1 := Lib.hid (HK.out.next hb1)
          clear hb1
          obtain ⟨c0, c1, c2, c3, c4, c5, c6⟩ := seven HK1.out.1
          obtain ⟨z0, z1, z2, z3, z4, z5, z6⟩ := seven HK1.out.2.1
          obtain ⟨f0, f1, f2, f3, f4, f5, f6⟩ := seven_fr HK1.out.2.1
          go_wp2_with fail
          refine (HI.out _).mono ?_
          rintro e w2 ⟨rfl, rfl⟩
          have HK2 := Lib.hid (KI.store HK1.out 0 (.int .i64 (n : Int)))
          simp only [List.setIfInBounds_toArray, List.set_cons_zero] at HK2
          obtain ⟨y0, y1, y2, y3, y4, y5, y6⟩ := seven_fr HK1.out.1
          obtain ⟨⟨e0, e1, e2, e3, e4, e5, e6⟩, hbl⟩ := KI.res HK2.out (.int .i64 (n : Int)) (.int .i64 b) (.int .i64 c) (.int .i64 d) (.int .i64 l) (.int .i64 r) (.int .i64 s)
          unfold put7 at e0 e1 e2 e3 e4 e5 e6 hbl
          go_wp2_with fail
          exact bodyPost_ret (v := .tuple #[.agg #[.int .i64 (n : Int), .int .i64 b, .int .i64 c, .int .i64 d, .int .i64 l, .int .i64 r, .int .i64 s], .bool true]) (by simp [results, Tryz.results116, go_sem, e0, e1, e2, e3, e4, e5, e6]) rfl ⟨rfl, hbl⟩
      · rw [if_pos ⟨hn0, rfl, by simp⟩]
        rw [show Iso.put ⟨a, b, c, d, l, r, s⟩ 1 n = ⟨a, n, c, d, l, r, s⟩ from rfl]
        simp only
        go_enter Tryz.func116, Tryz.ntmps116
        go_wp2_with fail
        refine (HF.out _ (HT.out.next HK.out.2.2) (HS.out.next HK.out.2.2)).mono ?_
        rintro e w1 ⟨rfl, hb1⟩
        have HK1 := Lib.hid (HK.out.next hb1)
        clear hb1
        obtain ⟨c0, c1, c2, c3, c4, c5, c6⟩ := seven HK1.out.1
        obtain ⟨z0, z1, z2, z3, z4, z5, z6⟩ := seven HK1.out.2.1
        obtain ⟨f0, f1, f2, f3, f4, f5, f6⟩ := seven_fr HK1.out.2.1
        go_wp2_with fail
        refine (HI.out _).mono ?_
        rintro e w2 ⟨rfl, rfl⟩
        have HK2 := Lib.hid (KI.store HK1.out 1 (.int .i64 (n : Int)))
        simp only [List.setIfInBounds_toArray, List.set_cons_zero, List.set_cons_succ] at HK2
        obtain ⟨y0, y1, y2, y3, y4, y5, y6⟩ := seven_fr HK1.out.1
        obtain ⟨⟨e0, e1, e2, e3, e4, e5, e6⟩, hbl⟩ := KI.res HK2.out (.int .i64 a) (.int .i64 (n : Int)) (.int .i64 c) (.int .i64 d) (.int .i64 l) (.int .i64 r) (.int .i64 s)
        unfold put7 at e0 e1 e2 e3 e4 e5 e6 hbl
        go_wp2_with fail
        exact bodyPost_ret (v := .tuple #[.agg #[.int .i64 a, .int .i64 (n : Int), .int .i64 c, .int .i64 d, .int .i64 l, .int .i64 r, .int .i64 s], .bool true]) (by simp [results, Tryz.results116, go_sem, e0, e1, e2, e3, e4, e5, e6]) rfl ⟨rfl, hbl⟩
      · rw [if_pos ⟨hn0, rfl, by simp⟩]
        rw [show Iso.put ⟨a, b, c, d, l, r, s⟩ 2 n = ⟨a, b, n, d, l, r, s⟩ from rfl]
        simp only
        go_enter Tryz.func116, Tryz.ntmps116
        go_wp2_with fail
        refine (HF.out _ (HT.out.next HK.out.2.2) (HS.out.next HK.out.2.2)).mono ?_
        rintro e w1 ⟨rfl, hb1⟩
        have HK1 := Lib.hid (HK.out.next hb1)
        clear hb1
        obtain ⟨c0, c1, c2, c3, c4, c5, c6⟩ := seven HK1.out.1
        obtain ⟨z0, z1, z2, z3, z4, z5, z6⟩ := seven HK1.out.2.1
        obtain ⟨f0, f1, f2, f3, f4, f5, f6⟩ := seven_fr HK1.out.2.1
        go_wp2_with fail
        refine (HI.out _).mono ?_
        rintro e w2 ⟨rfl, rfl⟩
        have HK2 := Lib.hid (KI.store HK1.out 2 (.int .i64 (n : Int)))
        simp only [List.setIfInBounds_toArray, List.set_cons_zero, List.set_cons_succ] at HK2
        obtain ⟨y0, y1, y2, y3, y4, y5, y6⟩ := seven_fr HK1.out.1
        obtain ⟨⟨e0, e1, e2, e3, e4, e5, e6⟩, hbl⟩ := KI.res HK2.out (.int .i64 a) (.int .i64 b) (.int .i64 (n : Int)) (.int .i64 d) (.int .i64 l) (.int .i64 r) (.int .i64 s)
        unfold put7 at e0 e1 e2 e3 e4 e5 e6 hbl
        go_wp2_with fail
        exact bodyPost_ret (v := .tuple #[.agg #[.int .i64 a, .int .i64 b, .int .i64 (n : Int), .int .i64 d, .int .i64 l, .int .i64 r, .int .i64 s], .bool true]) (by simp [results, Tryz.results116, go_sem, e0, e1, e2, e3, e4, e5, e6]) rfl ⟨rfl, hbl⟩
      · rw [if_pos ⟨hn0, rfl, by simp⟩]
        rw [show Iso.put ⟨a, b, c, d, l, r, s⟩ 3 n = ⟨a, b, c, n, l, r, s⟩ from rfl]
        simp only
        go_enter Tryz.func116, Tryz.ntmps116
        go_wp2_with fail
        refine (HF.out _ (HT.out.next HK.out.2.2) (HS.out.next HK.out.2.2)).mono ?_
        rintro e w1 ⟨rfl, hb1⟩
        have HK1 := Lib.hid (HK.out.next hb1)
        clear hb1
        obtain ⟨c0, c1, c2, c3, c4, c5, c6⟩ := seven HK1.out.1
        obtain ⟨z0, z1, z2, z3, z4, z5, z6⟩ := seven HK1.out.2.1
        obtain ⟨f0, f1, f2, f3, f4, f5, f6⟩ := seven_fr HK1.out.2.1
        go_wp2_with fail
        refine (HI.out _).mono ?_
        rintro e w2 ⟨rfl, rfl⟩
        have HK2 := Lib.hid (KI.store HK1.out 3 (.int .i64 (n : Int)))
        simp only [List.setIfInBounds_toArray, List.set_cons_zero, List.set_cons_succ] at HK2
        obtain ⟨y0, y1, y2, y3, y4, y5, y6⟩ := seven_fr HK1.out.1
        obtain ⟨⟨e0, e1, e2, e3, e4, e5, e6⟩, hbl⟩ := KI.res HK2.out (.int .i64 a) (.int .i64 b) (.int .i64 c) (.int .i64 (n : Int)) (.int .i64 l) (.int .i64 r) (.int .i64 s)
        unfold put7 at e0 e1 e2 e3 e4 e5 e6 hbl
        go_wp2_with fail
        exact bodyPost_ret (v := .tuple #[.agg #[.int .i64 a, .int .i64 b, .int .i64 c, .int .i64 (n : Int), .int .i64 l, .int .i64 r, .int .i64 s], .bool true]) (by simp [results, Tryz.results116, go_sem, e0, e1, e2, e3, e4, e5, e6]) rfl ⟨rfl, hbl⟩
end Go.Proofs.YtfnamfkjbkhgeaaGreatDoor

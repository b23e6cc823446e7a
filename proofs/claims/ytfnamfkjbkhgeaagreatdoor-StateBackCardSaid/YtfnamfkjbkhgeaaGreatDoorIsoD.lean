/-
  States of sets: which of the four; a new one; what is invoked.
  States of sets: a set is designated.
  States of sets: the glyph of a code, by what is at hand.
  States of sets: what is told of one.
-/
import Derived.Test.YtfnamfkjbkhgeaaGreatDoorChsN
import Derived.Deep.RegionHeld3
import Derived.Deep.DeepCutAuto
import Derived.Test.YtfnamfkjbkhgeaaGreatDoorMixE
namespace Go.Proofs.YtfnamfkjbkhgeaaGreatDoor

open Go Go.RowKit

/-- A state of sets, as its seven cells. -/
structure Iso where
  a : Int
  b : Int
  c : Int
  d : Int
  l : Int
  r : Int
  s : Int
def Iso.cs (x : Iso) : Array Value := #[.int .i64 x.a, .int .i64 x.b, .int .i64 x.c, .int .i64 x.d, .int .i64 x.l, .int .i64 x.r, .int .i64 x.s]
def Iso.val (x : Iso) : Value := .agg x.cs
def isoInB (lo g : Int) : Bool := decide (lo ≤ g) && decide (g ≤ 3)
theorem isOne_any (g : Int) (w : World) : Calls Tryz.prog 105 #[.int .i64 g] w fun e w' => e = .returned (.bool (isoInB 0 g)) ∧ w = w' := by
  unfold isoInB
  rcases h1 : decide (0 ≤ g) with _ | _
  · go_enter Tryz.func105, Tryz.ntmps105
    go_wp2_with fail
    go_ret
    exact ⟨rfl, rfl⟩
  · rcases h2 : decide (g ≤ 3) with _ | _
    all_goals
      go_enter Tryz.func105, Tryz.ntmps105
      go_wp2_with fail
      go_ret
      exact ⟨rfl, rfl⟩
theorem isRight_any (g : Int) (w : World) : Calls Tryz.prog 112 #[.int .i64 g] w fun e w' => e = .returned (.bool (isoInB 1 g)) ∧ w = w' := by
  unfold isoInB
  rcases h1 : decide (1 ≤ g) with _ | _
  · go_enter Tryz.func112, Tryz.ntmps112
    go_wp2_with fail
    go_ret
    exact ⟨rfl, rfl⟩
  · rcases h2 : decide (g ≤ 3) with _ | _
    all_goals
      go_enter Tryz.func112, Tryz.ntmps112
      go_wp2_with fail
      go_ret
      exact ⟨rfl, rfl⟩
def sinB (g : Int) : Bool := (g == 2) || (g == 3)

def newI : Iso := ⟨1, 1, 4, 4, 0, 2, 0⟩
set_option maxHeartbeats 1000000 in
theorem isoNew_any (w : World) : Calls Tryz.prog 98 #[] w fun e w' => e = .returned newI.val ∧ Below w.heap.size w w' := by
  go_enter Tryz.func98, Tryz.ntmps98
  go_wp2_with fail
  exact bodyPost_ret (v := newI.val) (by simp [results, Tryz.results98, go_sem, newI, Iso.val, Iso.cs]) rfl ⟨rfl, (Below.refl _ _).alloc (Nat.le_refl _) _⟩
def leftP (x : Iso) : Int := if isoInB 0 x.l = true then x.l else 0
def rightP (x : Iso) : Int := if isoInB 0 x.r = true then x.r else 2
set_option maxHeartbeats 1000000 in
theorem left_any (x : Iso) (w : World) : Calls Tryz.prog 70 #[x.val] w fun e w' => e = .returned (.int .i64 (leftP x)) ∧ Below w.heap.size w w' := by
  have HI := Lib.hid (fun W => isOne_any x.l W)
  have HB := Lib.hid (show ∀ o, Below w.heap.size w (w.alloc o) from fun o => (Below.refl _ _).alloc (Nat.le_refl _) o)
  unfold leftP Iso.val Iso.cs
  obtain ⟨a, b, c, d, l, r, s⟩ := x
  simp only at HI ⊢
  rcases h : isoInB 0 l with _ | _
  all_goals
    rw [h] at HI
    clear h
    go_enter Tryz.func70, Tryz.ntmps70
    go_wp2_with fail
    refine (HI.out _).mono ?_
    rintro e w1 ⟨rfl, rfl⟩
    go_wp2_with fail
    go_ret
    exact ⟨rfl, HB.out _⟩
set_option maxHeartbeats 1000000 in
theorem right_any (x : Iso) (w : World) : Calls Tryz.prog 71 #[x.val] w fun e w' => e = .returned (.int .i64 (rightP x)) ∧ Below w.heap.size w w' := by
  have HI := Lib.hid (fun W => isOne_any x.r W)
  have HB := Lib.hid (show ∀ o, Below w.heap.size w (w.alloc o) from fun o => (Below.refl _ _).alloc (Nat.le_refl _) o)
  unfold rightP Iso.val Iso.cs
  obtain ⟨a, b, c, d, l, r, s⟩ := x
  simp only at HI ⊢
  rcases h : isoInB 0 r with _ | _
  all_goals
    rw [h] at HI
    clear h
    go_enter Tryz.func71, Tryz.ntmps71
    go_wp2_with fail
    refine (HI.out _).mono ?_
    rintro e w1 ⟨rfl, rfl⟩
    go_wp2_with fail
    go_ret
    exact ⟨rfl, HB.out _⟩
def leftI (x : Iso) (g : Int) : Iso := if isoInB 0 g = true then { x with l := g } else x
set_option maxHeartbeats 2000000 in
theorem isoLeft_any (x : Iso) (g : Int) (w : World) : Calls Tryz.prog 113 #[x.val, .int .i64 g] w fun e w' => e = .returned (leftI x g).val ∧ Below w.heap.size w w' := by
  have HI := Lib.hid (fun W => isOne_any g W)
  obtain ⟨a, b, c, d, l, r, s⟩ := x
  rcases h : isoInB 0 g with _ | _
  · rw [h] at HI
    rw [show leftI ⟨a, b, c, d, l, r, s⟩ g = ⟨a, b, c, d, l, r, s⟩ from if_neg (by rw [h]; simp)]
    unfold Iso.val Iso.cs
    clear h
    go_enter Tryz.func113, Tryz.ntmps113
    go_wp2_with fail
    refine (HI.out _).mono ?_
    rintro e w1 ⟨rfl, rfl⟩
    go_wp2_with fail
    exact bodyPost_ret (v := .agg #[.int .i64 a, .int .i64 b, .int .i64 c, .int .i64 d, .int .i64 l, .int .i64 r, .int .i64 s]) (by simp [results, Tryz.results113, go_sem]) rfl ⟨rfl, ((Below.refl _ _).alloc (Nat.le_refl _) _).alloc (by simp) _⟩
  · rw [h] at HI
    rw [show leftI ⟨a, b, c, d, l, r, s⟩ g = { (⟨a, b, c, d, l, r, s⟩ : Iso) with l := g } from if_pos h]
    unfold Iso.val Iso.cs
    clear h
    go_enter Tryz.func113, Tryz.ntmps113
    go_wp2_with fail
    refine (HI.out _).mono ?_
    rintro e w1 ⟨rfl, rfl⟩
    go_wp2_with fail
    exact bodyPost_ret (v := .agg #[.int .i64 a, .int .i64 b, .int .i64 c, .int .i64 d, .int .i64 g, .int .i64 r, .int .i64 s]) (by simp [results, Tryz.results113, go_sem]) rfl ⟨rfl, ((Below.refl _ _).alloc (Nat.le_refl _) _).alloc (by simp) _⟩
def rightI (x : Iso) (g : Int) : Iso := if isoInB 1 g = true then { x with r := g } else x
set_option maxHeartbeats 2000000 in
theorem isoRight_any (x : Iso) (g : Int) (w : World) : Calls Tryz.prog 114 #[x.val, .int .i64 g] w fun e w' => e = .returned (rightI x g).val ∧ Below w.heap.size w w' := by
  have HI := Lib.hid (fun W => isRight_any g W)
  obtain ⟨a, b, c, d, l, r, s⟩ := x
  rcases h : isoInB 1 g with _ | _
  · rw [h] at HI
    rw [show rightI ⟨a, b, c, d, l, r, s⟩ g = ⟨a, b, c, d, l, r, s⟩ from if_neg (by rw [h]; simp)]
    unfold Iso.val Iso.cs
    clear h
    go_enter Tryz.func114, Tryz.ntmps114
    go_wp2_with fail
    refine (HI.out _).mono ?_
    rintro e w1 ⟨rfl, rfl⟩
    go_wp2_with fail
    exact bodyPost_ret (v := .agg #[.int .i64 a, .int .i64 b, .int .i64 c, .int .i64 d, .int .i64 l, .int .i64 r, .int .i64 s]) (by simp [results, Tryz.results114, go_sem]) rfl ⟨rfl, ((Below.refl _ _).alloc (Nat.le_refl _) _).alloc (by simp) _⟩
  · rw [h] at HI
    rw [show rightI ⟨a, b, c, d, l, r, s⟩ g = { (⟨a, b, c, d, l, r, s⟩ : Iso) with r := g } from if_pos h]
    unfold Iso.val Iso.cs
    clear h
    go_enter Tryz.func114, Tryz.ntmps114
    go_wp2_with fail
    refine (HI.out _).mono ?_
    rintro e w1 ⟨rfl, rfl⟩
    go_wp2_with fail
    exact bodyPost_ret (v := .agg #[.int .i64 a, .int .i64 b, .int .i64 c, .int .i64 d, .int .i64 l, .int .i64 g, .int .i64 s]) (by simp [results, Tryz.results114, go_sem]) rfl ⟨rfl, ((Below.refl _ _).alloc (Nat.le_refl _) _).alloc (by simp) _⟩
def onceI (x : Iso) (g : Int) : Iso := if sinB g = true then { x with s := g } else x

def meantP (x : Iso) (c : Nat) : Int := if sinB x.s = true then x.s else if c < 128 then leftP x else rightP x
theorem and_high : ∀ n : Nat, n < 256 → (bits .and .u8 (n : Int) 128 == 0) = decide (n < 128) := by decide +kernel

end Go.Proofs.YtfnamfkjbkhgeaaGreatDoor

namespace Go.Proofs.YtfnamfkjbkhgeaaGreatDoor

open Go Go.RowKit

theorem seven {w : World} {g : Nat} {T : TypeId} {v0 v1 v2 v3 v4 v5 v6 : Value} (h : Blk w g T #[v0, v1, v2, v3, v4, v5, v6]) :
    w.cell? ⟨g, 0, none⟩ = some v0 ∧ w.cell? ⟨g, 1, none⟩ = some v1 ∧ w.cell? ⟨g, 2, none⟩ = some v2 ∧ w.cell? ⟨g, 3, none⟩ = some v3 ∧ w.cell? ⟨g, 4, none⟩ = some v4 ∧ w.cell? ⟨g, 5, none⟩ = some v5 ∧ w.cell? ⟨g, 6, none⟩ = some v6 :=
  ⟨h.cell 0, h.cell 1, h.cell 2, h.cell 3, h.cell 4, h.cell 5, h.cell 6⟩
theorem seven_fr {w : World} {g : Nat} {T : TypeId} {cs : Array Value} (h : Blk w g T cs) :
    w.frozen? ⟨g, 0, none⟩ = false ∧ w.frozen? ⟨g, 1, none⟩ = false ∧ w.frozen? ⟨g, 2, none⟩ = false ∧ w.frozen? ⟨g, 3, none⟩ = false ∧ w.frozen? ⟨g, 4, none⟩ = false ∧ w.frozen? ⟨g, 5, none⟩ = false ∧ w.frozen? ⟨g, 6, none⟩ = false :=
  ⟨h.frozen 0, h.frozen 1, h.frozen 2, h.frozen 3, h.frozen 4, h.frozen 5, h.frozen 6⟩
def put7 (w : World) (g : Nat) (v0 v1 v2 v3 v4 v5 v6 : Value) : World := ((((((w.setCell ⟨g, 0, none⟩ v0).setCell ⟨g, 1, none⟩ v1).setCell ⟨g, 2, none⟩ v2).setCell ⟨g, 3, none⟩ v3).setCell ⟨g, 4, none⟩ v4).setCell ⟨g, 5, none⟩ v5).setCell ⟨g, 6, none⟩ v6
theorem put7_blk {w : World} {g : Nat} {T : TypeId} {u0 u1 u2 u3 u4 u5 u6 : Value} (h : Blk w g T #[u0, u1, u2, u3, u4, u5, u6]) (v0 v1 v2 v3 v4 v5 v6 : Value) : Blk (put7 w g v0 v1 v2 v3 v4 v5 v6) g T #[v0, v1, v2, v3, v4, v5, v6] := by
  have := ((((((h.set_ 0 v0).set_ 1 v1).set_ 2 v2).set_ 3 v3).set_ 4 v4).set_ 5 v5).set_ 6 v6
  simp only [List.setIfInBounds_toArray, List.set_cons_zero, List.set_cons_succ] at this
  exact this
theorem put7_below {w W : World} {B g : Nat} (h : Below B w W) (hg : B ≤ g) (v0 v1 v2 v3 v4 v5 v6 : Value) : Below B w (put7 W g v0 v1 v2 v3 v4 v5 v6) :=
  ((((((h.setCell (p := ⟨g, 0, none⟩) hg v0).setCell (p := ⟨g, 1, none⟩) hg v1).setCell (p := ⟨g, 2, none⟩) hg v2).setCell (p := ⟨g, 3, none⟩) hg v3).setCell (p := ⟨g, 4, none⟩) hg v4).setCell (p := ⟨g, 5, none⟩) hg v5).setCell (p := ⟨g, 6, none⟩) hg v6
def Iso.put (x : Iso) (g : Int) (n : Int) : Iso := if g = 0 then { x with a := n } else if g = 1 then { x with b := n } else if g = 2 then { x with c := n } else { x with d := n }
/-- A set designated, or not. -/
def desP (x : Iso) (g : Int) (wide : Bool) (id : ByteArray) : Iso × Bool := if fndP (metP wide id) ≠ 0 ∧ isoInB 0 g = true ∧ ¬ (g = 0 ∧ wide = true) then (x.put g (fndP (metP wide id)), true) else (x, false)
def desV (p : Iso × Bool) : Value := .tuple #[p.1.val, .bool p.2]
/-- What is known in its midst. -/
def KI (w : World) (x : Array Value) (w' : World) : Prop := Blk w' w.heap.size 38 x ∧ Blk w' (w.heap.size + 1) 38 #[.int .i64 0, .int .i64 0, .int .i64 0, .int .i64 0, .int .i64 0, .int .i64 0, .int .i64 0] ∧ Below w.heap.size w w'
theorem KI.start (w : World) (x : Array Value) : KI w x ((w.alloc (.cells x 38)).alloc (.cells #[.int .i64 0, .int .i64 0, .int .i64 0, .int .i64 0, .int .i64 0, .int .i64 0, .int .i64 0] 38)) :=
  ⟨(Blk.new w _ x).alloc _, by have := Blk.new (w.alloc (.cells x 38)) 38 #[.int .i64 0, .int .i64 0, .int .i64 0, .int .i64 0, .int .i64 0, .int .i64 0, .int .i64 0]; simpa using this, ((Below.refl _ _).alloc (Nat.le_refl _) _).alloc (by simp) _⟩
theorem KI.next {w W w' : World} {x : Array Value} (h : KI w x W) (hb : Below W.heap.size W w') : KI w x w' := ⟨h.1.next hb, h.2.1.next hb, h.2.2.trans (hb.mono h.2.2.size)⟩
theorem KI.store {w W : World} {a b c d l r s : Value} (h : KI w #[a, b, c, d, l, r, s] W) (k : Nat) (v : Value) : KI w (#[a, b, c, d, l, r, s].setIfInBounds k v) (W.setCell ⟨w.heap.size, k, none⟩ v) :=
  ⟨h.1.set_ k v, Blk.far h.2.1 (by simp) _, h.2.2.setCell (by simp) _⟩
theorem KI.res {w W : World} {x : Array Value} (h : KI w x W) (v0 v1 v2 v3 v4 v5 v6 : Value) :
    ((put7 W (w.heap.size + 1) v0 v1 v2 v3 v4 v5 v6).cell? ⟨w.heap.size + 1, 0, none⟩ = some v0 ∧ (put7 W (w.heap.size + 1) v0 v1 v2 v3 v4 v5 v6).cell? ⟨w.heap.size + 1, 1, none⟩ = some v1 ∧ (put7 W (w.heap.size + 1) v0 v1 v2 v3 v4 v5 v6).cell? ⟨w.heap.size + 1, 2, none⟩ = some v2 ∧ (put7 W (w.heap.size + 1) v0 v1 v2 v3 v4 v5 v6).cell? ⟨w.heap.size + 1, 3, none⟩ = some v3 ∧ (put7 W (w.heap.size + 1) v0 v1 v2 v3 v4 v5 v6).cell? ⟨w.heap.size + 1, 4, none⟩ = some v4 ∧ (put7 W (w.heap.size + 1) v0 v1 v2 v3 v4 v5 v6).cell? ⟨w.heap.size + 1, 5, none⟩ = some v5 ∧ (put7 W (w.heap.size + 1) v0 v1 v2 v3 v4 v5 v6).cell? ⟨w.heap.size + 1, 6, none⟩ = some v6) ∧ Below w.heap.size w (put7 W (w.heap.size + 1) v0 v1 v2 v3 v4 v5 v6) :=
  ⟨seven (put7_blk h.2.1 v0 v1 v2 v3 v4 v5 v6), put7_below h.2.2 (by omega) _ _ _ _ _ _ _⟩
set_option maxRecDepth 100000 in
set_option maxHeartbeats 8000000 in
theorem designate_any (x : Iso) (g : Int) (wide : Bool) (id : ByteArray) (w : World) (ht : Faces w) (hs : Blanks w) :
    Calls Tryz.prog 116 #[x.val, .int .i64 g, .bool wide, .string id] w fun e w' => e = .returned (desV (desP x g wide id)) ∧ Below w.heap.size w w' := by
  have HF := Lib.hid (fun W t s => find_any wide id W t s)
  have HI := Lib.hid (fun W => isOne_any g W)
  unfold desP desV
  generalize fndP (metP wide id) = n at *
  have HK := Lib.hid (KI.start w x.cs)
  have HT := Lib.hid ht; have HS := Lib.hid hs
  clear ht hs
  obtain ⟨a, b, c, d, l, r, s⟩ := x
  unfold Iso.val Iso.cs at *
  simp only at HK ⊢
  rcases hn : (n != 0) with _ | _
  · rw [hn] at HF
    rw [if_neg (fun h => by have h1 := h.1; simp at hn; exact h1 hn)]
    clear hn
    simp only
    go_enter Tryz.func116, Tryz.ntmps116
    go_wp2_with fail
    refine (HF.out _ (HT.out.next HK.out.2.2) (HS.out.next HK.out.2.2)).mono ?_
    rintro e w1 ⟨rfl, hb1⟩
    have HK1 := Lib.hid (HK.out.next hb1)
    clear hb1
    obtain ⟨c0, c1, c2, c3, c4, c5, c6⟩ := seven HK1.out.1
    obtain ⟨z0, z1, z2, z3, z4, z5, z6⟩ := seven HK1.out.2.1
    obtain ⟨f0, f1, f2, f3, f4, f5, f6⟩ := seven_fr HK1.out.2.1
    obtain ⟨⟨e0, e1, e2, e3, e4, e5, e6⟩, hbl⟩ := KI.res HK1.out (.int .i64 a) (.int .i64 b) (.int .i64 c) (.int .i64 d) (.int .i64 l) (.int .i64 r) (.int .i64 s)
    unfold put7 at e0 e1 e2 e3 e4 e5 e6 hbl
    go_wp2_with fail
    exact bodyPost_ret (v := .tuple #[.agg #[.int .i64 a, .int .i64 b, .int .i64 c, .int .i64 d, .int .i64 l, .int .i64 r, .int .i64 s], .bool false]) (by simp [results, Tryz.results116, go_sem, e0, e1, e2, e3, e4, e5, e6]) rfl ⟨rfl, hbl⟩
  · rw [hn] at HF
    have hn0 : n ≠ 0 := by simpa using hn
    clear hn
    rcases ho : isoInB 0 g with _ | _
    · rw [ho] at HI
      rw [if_neg (fun h => by cases h.2.1)]
      clear ho
      simp only
      go_enter Tryz.func116, Tryz.ntmps116
      go_wp2_with fail
      refine (HF.out _ (HT.out.next HK.out.2.2) (HS.out.next HK.out.2.2)).mono ?_
      rintro e w1 ⟨rfl, hb1⟩
      have HK1 := Lib.hid (HK.out.next hb1)
      clear hb1
      obtain ⟨c0, c1, c2, c3, c4, c5, c6⟩ := seven HK1.out.1
      obtain ⟨z0, z1, z2, z3, z4, z5, z6⟩ := seven HK1.out.2.1
      obtain ⟨f0, f1, f2, f3, f4, f5, f6⟩ := seven_fr HK1.out.2.1
      go_wp2_with fail
      refine (HI.out _).mono ?_
      rintro e w2 ⟨rfl, rfl⟩
      obtain ⟨⟨e0, e1, e2, e3, e4, e5, e6⟩, hbl⟩ := KI.res HK1.out (.int .i64 a) (.int .i64 b) (.int .i64 c) (.int .i64 d) (.int .i64 l) (.int .i64 r) (.int .i64 s)
      unfold put7 at e0 e1 e2 e3 e4 e5 e6 hbl
      go_wp2_with fail
      exact bodyPost_ret (v := .tuple #[.agg #[.int .i64 a, .int .i64 b, .int .i64 c, .int .i64 d, .int .i64 l, .int .i64 r, .int .i64 s], .bool false]) (by simp [results, Tryz.results116, go_sem, e0, e1, e2, e3, e4, e5, e6]) rfl ⟨rfl, hbl⟩
    · rw [ho] at HI
      have hg : g = 0 ∨ g = 1 ∨ g = 2 ∨ g = 3 := by unfold isoInB at ho; simp at ho; omega
      clear ho
      rcases hg with rfl | rfl | rfl | rfl
      · cases wide with
        | true =>
          rw [if_neg (fun h => h.2.2 ⟨rfl, rfl⟩)]
          simp only
          go_enter Tryz.func116, Tryz.ntmps116
          go_wp2_with fail
          refine (HF.out _ (HT.out.next HK.out.2.2) (HS.out.next HK.out.2.2)).mono ?_
          rintro e w1 ⟨rfl, hb1⟩
          have HK1 := Lib.hid (HK.out.next hb1)
          clear hb1
          obtain ⟨c0, c1, c2, c3, c4, c5, c6⟩ := seven HK1.out.1
          obtain ⟨z0, z1, z2, z3, z4, z5, z6⟩ := seven HK1.out.2.1
          obtain ⟨f0, f1, f2, f3, f4, f5, f6⟩ := seven_fr HK1.out.2.1
          go_wp2_with fail
          refine (HI.out _).mono ?_
          rintro e w2 ⟨rfl, rfl⟩
          obtain ⟨⟨e0, e1, e2, e3, e4, e5, e6⟩, hbl⟩ := KI.res HK1.out (.int .i64 a) (.int .i64 b) (.int .i64 c) (.int .i64 d) (.int .i64 l) (.int .i64 r) (.int .i64 s)
          unfold put7 at e0 e1 e2 e3 e4 e5 e6 hbl
          go_wp2_with fail
          exact bodyPost_ret (v := .tuple #[.agg #[.int .i64 a, .int .i64 b, .int .i64 c, .int .i64 d, .int .i64 l, .int .i64 r, .int .i64 s], .bool false]) (by simp [results, Tryz.results116, go_sem, e0, e1, e2, e3, e4, e5, e6]) rfl ⟨rfl, hbl⟩
        | false =>
          rw [if_pos ⟨hn0, rfl, by simp⟩]
          rw [show Iso.put ⟨a, b, c, d, l, r, s⟩ 0 n = ⟨n, b, c, d, l, r, s⟩ from rfl]
          simp only
          go_enter Tryz.func116, Tryz.ntmps116
          go_wp2_with fail
          refine (HF.out _ (HT.out.next HK.out.2.2) (HS.out.next HK.out.2.2)).mono ?_
          rintro e w1 ⟨rfl, hb1⟩
          have HK1 := Lib.hid (HK.out.next hb1)
          clear hb1
          obtain ⟨c0, c1, c2, c3, c4, c5, c6⟩ := seven HK1.out.1
          obtain ⟨z0, z1, z2, z3, z4, z5, z6⟩ := seven HK1.out.2.1
          obtain ⟨f0, f1, f2, f3, f4, f5, f6⟩ := seven_fr HK1.out.2.1
          go_wp2_with fail
          refine (HI.out _).mono ?_
          rintro e w2 ⟨rfl, rfl⟩
          have HK2 := Lib.hid (KI.store HK1.out 0 (.int .i64 (n : Int)))
          simp only [List.setIfInBounds_toArray, List.set_cons_zero] at HK2
          obtain ⟨y0, y1, y2, y3, y4, y5, y6⟩ := seven_fr HK1.out.1
          obtain ⟨⟨e0, e1, e2, e3, e4, e5, e6⟩, hbl⟩ := KI.res HK2.out (.int .i64 (n : Int)) (.int .i64 b) (.int .i64 c) (.int .i64 d) (.int .i64 l) (.int .i64 r) (.int .i64 s)
          unfold put7 at e0 e1 e2 e3 e4 e5 e6 hbl
          go_wp2_with fail
          exact bodyPost_ret (v := .tuple #[.agg #[.int .i64 (n : Int), .int .i64 b, .int .i64 c, .int .i64 d, .int .i64 l, .int .i64 r, .int .i64 s], .bool true]) (by simp [results, Tryz.results116, go_sem, e0, e1, e2, e3, e4, e5, e6]) rfl ⟨rfl, hbl⟩
      · rw [if_pos ⟨hn0, rfl, by simp⟩]
        rw [show Iso.put ⟨a, b, c, d, l, r, s⟩ 1 n = ⟨a, n, c, d, l, r, s⟩ from rfl]
        simp only
        go_enter Tryz.func116, Tryz.ntmps116
        go_wp2_with fail
        refine (HF.out _ (HT.out.next HK.out.2.2) (HS.out.next HK.out.2.2)).mono ?_
        rintro e w1 ⟨rfl, hb1⟩
        have HK1 := Lib.hid (HK.out.next hb1)
        clear hb1
        obtain ⟨c0, c1, c2, c3, c4, c5, c6⟩ := seven HK1.out.1
        obtain ⟨z0, z1, z2, z3, z4, z5, z6⟩ := seven HK1.out.2.1
        obtain ⟨f0, f1, f2, f3, f4, f5, f6⟩ := seven_fr HK1.out.2.1
        go_wp2_with fail
        refine (HI.out _).mono ?_
        rintro e w2 ⟨rfl, rfl⟩
        have HK2 := Lib.hid (KI.store HK1.out 1 (.int .i64 (n : Int)))
        simp only [List.setIfInBounds_toArray, List.set_cons_zero, List.set_cons_succ] at HK2
        obtain ⟨y0, y1, y2, y3, y4, y5, y6⟩ := seven_fr HK1.out.1
        obtain ⟨⟨e0, e1, e2, e3, e4, e5, e6⟩, hbl⟩ := KI.res HK2.out (.int .i64 a) (.int .i64 (n : Int)) (.int .i64 c) (.int .i64 d) (.int .i64 l) (.int .i64 r) (.int .i64 s)
        unfold put7 at e0 e1 e2 e3 e4 e5 e6 hbl
        go_wp2_with fail
        exact bodyPost_ret (v := .tuple #[.agg #[.int .i64 a, .int .i64 (n : Int), .int .i64 c, .int .i64 d, .int .i64 l, .int .i64 r, .int .i64 s], .bool true]) (by simp [results, Tryz.results116, go_sem, e0, e1, e2, e3, e4, e5, e6]) rfl ⟨rfl, hbl⟩
      · rw [if_pos ⟨hn0, rfl, by simp⟩]
        rw [show Iso.put ⟨a, b, c, d, l, r, s⟩ 2 n = ⟨a, b, n, d, l, r, s⟩ from rfl]
        simp only
        go_enter Tryz.func116, Tryz.ntmps116
        go_wp2_with fail
        refine (HF.out _ (HT.out.next HK.out.2.2) (HS.out.next HK.out.2.2)).mono ?_
        rintro e w1 ⟨rfl, hb1⟩
        have HK1 := Lib.hid (HK.out.next hb1)
        clear hb1
        obtain ⟨c0, c1, c2, c3, c4, c5, c6⟩ := seven HK1.out.1
        obtain ⟨z0, z1, z2, z3, z4, z5, z6⟩ := seven HK1.out.2.1
        obtain ⟨f0, f1, f2, f3, f4, f5, f6⟩ := seven_fr HK1.out.2.1
        go_wp2_with fail
        refine (HI.out _).mono ?_
        rintro e w2 ⟨rfl, rfl⟩
        have HK2 := Lib.hid (KI.store HK1.out 2 (.int .i64 (n : Int)))
        simp only [List.setIfInBounds_toArray, List.set_cons_zero, List.set_cons_succ] at HK2
        obtain ⟨y0, y1, y2, y3, y4, y5, y6⟩ := seven_fr HK1.out.1
        obtain ⟨⟨e0, e1, e2, e3, e4, e5, e6⟩, hbl⟩ := KI.res HK2.out (.int .i64 a) (.int .i64 b) (.int .i64 (n : Int)) (.int .i64 d) (.int .i64 l) (.int .i64 r) (.int .i64 s)
        unfold put7 at e0 e1 e2 e3 e4 e5 e6 hbl
        go_wp2_with fail
        exact bodyPost_ret (v := .tuple #[.agg #[.int .i64 a, .int .i64 b, .int .i64 (n : Int), .int .i64 d, .int .i64 l, .int .i64 r, .int .i64 s], .bool true]) (by simp [results, Tryz.results116, go_sem, e0, e1, e2, e3, e4, e5, e6]) rfl ⟨rfl, hbl⟩
      · rw [if_pos ⟨hn0, rfl, by simp⟩]
        rw [show Iso.put ⟨a, b, c, d, l, r, s⟩ 3 n = ⟨a, b, c, n, l, r, s⟩ from rfl]
        simp only
        go_enter Tryz.func116, Tryz.ntmps116
        go_wp2_with fail
        refine (HF.out _ (HT.out.next HK.out.2.2) (HS.out.next HK.out.2.2)).mono ?_
        rintro e w1 ⟨rfl, hb1⟩
        have HK1 := Lib.hid (HK.out.next hb1)
        clear hb1
        obtain ⟨c0, c1, c2, c3, c4, c5, c6⟩ := seven HK1.out.1
        obtain ⟨z0, z1, z2, z3, z4, z5, z6⟩ := seven HK1.out.2.1
        obtain ⟨f0, f1, f2, f3, f4, f5, f6⟩ := seven_fr HK1.out.2.1
        go_wp2_with fail
        refine (HI.out _).mono ?_
        rintro e w2 ⟨rfl, rfl⟩
        have HK2 := Lib.hid (KI.store HK1.out 3 (.int .i64 (n : Int)))
        simp only [List.setIfInBounds_toArray, List.set_cons_zero, List.set_cons_succ] at HK2
        obtain ⟨y0, y1, y2, y3, y4, y5, y6⟩ := seven_fr HK1.out.1
        obtain ⟨⟨e0, e1, e2, e3, e4, e5, e6⟩, hbl⟩ := KI.res HK2.out (.int .i64 a) (.int .i64 b) (.int .i64 c) (.int .i64 (n : Int)) (.int .i64 l) (.int .i64 r) (.int .i64 s)
        unfold put7 at e0 e1 e2 e3 e4 e5 e6 hbl
        go_wp2_with fail
        exact bodyPost_ret (v := .tuple #[.agg #[.int .i64 a, .int .i64 b, .int .i64 c, .int .i64 (n : Int), .int .i64 l, .int .i64 r, .int .i64 s], .bool true]) (by simp [results, Tryz.results116, go_sem, e0, e1, e2, e3, e4, e5, e6]) rfl ⟨rfl, hbl⟩
end Go.Proofs.YtfnamfkjbkhgeaaGreatDoor

namespace Go.Proofs.YtfnamfkjbkhgeaaGreatDoor

open Go Go.RowKit

theorem repl7 {w : World} {g : Nat} {T : TypeId} {u0 u1 u2 u3 u4 u5 u6 : Value} (h : Blk w g T #[u0, u1, u2, u3, u4, u5, u6]) (v0 v1 v2 v3 v4 v5 v6 : Value) : Repl w (put7 w g v0 v1 v2 v3 v4 v5 v6) g T #[v0, v1, v2, v3, v4, v5, v6] := by
  have h0 := h.set_ 0 v0
  have h1 := h0.set_ 1 v1
  have h2 := h1.set_ 2 v2
  have h3 := h2.set_ 3 v3
  have h4 := h3.set_ 4 v4
  have h5 := h4.set_ 5 v5
  have := (Repl.set h 0 v0).trans ((Repl.set h0 1 v1).trans ((Repl.set h1 2 v2).trans ((Repl.set h2 3 v3).trans ((Repl.set h3 4 v4).trans ((Repl.set h4 5 v5).trans (Repl.set h5 6 v6))))))
  simp only [List.setIfInBounds_toArray, List.set_cons_zero, List.set_cons_succ] at this
  exact this
theorem KI.only {w W W' : World} {x : Array Value} (h : KI w x W) (ho : Only [w.heap.size + 1] W W') : Blk W' w.heap.size 38 x ∧ Below w.heap.size w W' :=
  ⟨ho.blk h.1 (by simp), h.2.2.trans (ho.below h.2.2.size (fun k hk => by simp at hk; omega))⟩
def Iso.at_ (x : Iso) (j : Int) : Int := if j = 0 then x.a else if j = 1 then x.b else if j = 2 then x.c else x.d
/-- The glyph of a code, and the state behind it. -/
def mapP (x : Iso) (n : Nat) : Int × Iso := if n % 128 < 32 then (0, x) else (gP (setN (x.at_ (meantP x n))) (n % 128), if sinB x.s = true then { x with s := 0 } else x)
def mapV (p : Int × Iso) : Value := .tuple #[.int .i32 p.1, p.2.val]
theorem in_cases {g : Int} (h : isoInB 0 g = true) : g = 0 ∨ g = 1 ∨ g = 2 ∨ g = 3 := by unfold isoInB at h; simp at h; omega
theorem meant_in (x : Iso) (n : Nat) : meantP x n = 0 ∨ meantP x n = 1 ∨ meantP x n = 2 ∨ meantP x n = 3 := by
  unfold meantP
  by_cases h : sinB x.s = true
  · rw [if_pos h]
    unfold sinB at h
    simp at h
    omega
  · rw [if_neg h]
    by_cases h8 : n < 128
    · rw [if_pos h8]
      unfold leftP
      by_cases h1 : isoInB 0 x.l = true
      · rw [if_pos h1]; exact in_cases h1
      · rw [if_neg h1]; exact .inl rfl
    · rw [if_neg h8]
      unfold rightP
      by_cases h1 : isoInB 0 x.r = true
      · rw [if_pos h1]; exact in_cases h1
      · rw [if_neg h1]; exact .inr (.inr (.inl rfl))

end Go.Proofs.YtfnamfkjbkhgeaaGreatDoor

namespace Go.Proofs.YtfnamfkjbkhgeaaGreatDoor

open Go Go.RowKit

/-- Sizes and ids, of the first so many. -/
def sizP (x : Iso) : Nat → Nat
  | 0 => 64
  | k + 1 => sizP x k + (if wideP (setN (x.at_ k)) = true then 2 ^ k else 0)
def idtP (x : Iso) : Nat → ByteArray
  | 0 => ⟨#[]⟩
  | k + 1 => idtP x k ++ cIdP (setN (x.at_ k))
def rptV (x : Iso) : Value := .tuple #[.int .i64 (leftP x), .int .i64 (rightP x), .int .u8 (sizP x 4), .string (idtP x 4)]
theorem isoId_size : ∀ k, k < 18 → (cIdP k).size ≤ 2 := by decide +kernel
theorem idt_size (x : Iso) : ∀ k, (idtP x k).size ≤ 2 * k := by
  intro k
  induction k with
  | zero => exact Nat.le_refl _
  | succ k ih =>
    have := isoId_size (setN (x.at_ k)) (setN_lt _)
    show (idtP x k ++ cIdP (setN (x.at_ k))).size ≤ _
    rw [ByteArray.size_append]
    omega
theorem siz_le (x : Iso) : ∀ k, sizP x k ≤ 63 + 2 ^ k ∧ 64 ≤ sizP x k := by
  intro k
  induction k with
  | zero => exact ⟨Nat.le_refl 64, Nat.le_refl _⟩
  | succ k ih =>
    have e : sizP x (k + 1) = sizP x k + (if wideP (setN (x.at_ k)) = true then 2 ^ k else 0) := rfl
    rw [e, Nat.pow_succ]
    split <;> omega
theorem or_bit : ∀ k, k < 4 → ∀ n : Nat, n < 128 → 64 ≤ n → n ≤ 63 + 2 ^ k → bits .or .u8 (n : Int) ((2 ^ k : Nat) : Int) = ((n + 2 ^ k : Nat) : Int) := by decide +kernel
set_option maxRecDepth 100000 in
set_option maxHeartbeats 8000000 in
theorem report_any (x : Iso) (w : World) (ht : Faces w) :
    Calls Tryz.prog 25 #[x.val] w fun e w' => e = .returned (rptV x) ∧ Below w.heap.size w w' := by
  have HL := Lib.hid (fun W => left_any x W)
  have HR := Lib.hid (fun W => right_any x W)
  have HId : Hid (∀ (j : Int) W, Faces W → Calls Tryz.prog 69 #[.int .i64 (x.at_ j)] W fun e w' => e = .returned (.tuple #[.string (cIdP (setN (x.at_ j))), .bool (wideP (setN (x.at_ j)))]) ∧ Below W.heap.size W w') := Lib.hid (fun j W t => cId_any (x.at_ j) W t)
  have HT := Lib.hid ht
  clear ht
  unfold rptV
  have HB0 := Lib.hid (show Below w.heap.size w (w.alloc (.cells x.cs 38)) from (Below.refl _ _).alloc (Nat.le_refl _) _)
  have HX := Lib.hid (Blk.new w 38 x.cs)
  have HSz := Lib.hid (siz_le x); have HIs := Lib.hid (idt_size x)
  have HS1 : Hid (∀ k, sizP x (k + 1) = sizP x k + (if wideP (setN (x.at_ k)) = true then 2 ^ k else 0)) := Lib.hid (fun k => rfl)
  have HI1 : Hid (∀ k, idtP x (k + 1) = idtP x k ++ cIdP (setN (x.at_ k))) := Lib.hid (fun k => rfl)
  have h0 : sizP x 0 = 64 := rfl
  have i0 : idtP x 0 = ⟨#[]⟩ := rfl
  generalize leftP x = lp at *
  generalize rightP x = rp at *
  generalize sizP x = sz at *
  generalize idtP x = it at *
  obtain ⟨a, b, c, d, l, r, s⟩ := x
  unfold Iso.val Iso.cs at *
  simp only at HX HB0 HL HR ⊢
  go_enter Tryz.func25, Tryz.ntmps25
  go_wp2_with fail
  have HK0 := HB0
  go_loopw [6, 7, 14] (fun z t i wr => ∃ k : Nat, k ≤ 4 ∧ i = .int .i64 k ∧ z = .int .u8 (sz k) ∧ t = .string (it k) ∧ Faces wr ∧ Blk wr w.heap.size 38 #[.int .i64 a, .int .i64 b, .int .i64 c, .int .i64 d, .int .i64 l, .int .i64 r, .int .i64 s] ∧ Below w.heap.size w wr) (fun _ _ i _ => 4 - (intOf i).toNat)
  case atStart => exact ⟨0, by omega, rfl, by rw [h0]; rfl, by rw [i0], HT.out.next HB0.out, HX.out, HB0.out⟩
  case round =>
    obtain ⟨k, hk, rfl, rfl, rfl, hf, hx, hb⟩ := hrel
    have HF := Lib.hid hf; have HXr := Lib.hid hx; have HB := Lib.hid hb
    clear hf hx hb
    by_cases hlt : k < 4
    · clear h0 i0
      have hks : k = 0 ∨ k = 1 ∨ k = 2 ∨ k = 3 := by omega
      rcases hks with rfl | rfl | rfl | rfl
      · have HIk : Hid (∀ W, Faces W → Calls Tryz.prog 69 #[.int .i64 a] W fun e w' => e = .returned (.tuple #[.string (cIdP (setN a)), .bool (wideP (setN a))]) ∧ Below W.heap.size W w') := Lib.hid (fun W t => HId.out 0 W t)
        have hs1 : sz 1 = sz 0 + (if wideP (setN a) = true then 2 ^ 0 else 0) := HS1.out 0
        have hi1 : it 1 = it 0 ++ cIdP (setN a) := HI1.out 0
        obtain ⟨hz1, hz2⟩ := HSz.out 0
        have his := HIs.out 0
        have hid := isoId_size (setN a) (setN_lt _)
        generalize cIdP (setN a) = id at *
        rcases hw : wideP (setN a) with _ | _
        · rw [hw] at HIk hs1
          rw [if_neg (by simp)] at hs1
          have hadd : ∀ W, (Op.stringOp .add (it 0) id).run Tryz.prog W = .ok (.string (it 0 ++ id)) W := fun W => run_string_add_sum W _ _ (by omega)
          have HS2 := Lib.hid hs1; have HI2 := Lib.hid hi1
          clear hs1 hi1 hz1 hz2 his hw HId HS1 HI1 HSz HIs hk hlt hid
          generalize sz 0 = z at *
          generalize it 0 = t at *
          have hix : ∀ W, (Instr.index 23 (.agg #[.int .i64 a, .int .i64 b, .int .i64 c, .int .i64 d]) (.int .i64 0)).run Tryz.prog W = .ok (.int .i64 a) W := fun W => by kernel_rfl
          go_wp2_with fail
          refine (HIk.out _ HF.out).mono ?_
          rintro e w1 ⟨rfl, hb1⟩
          have HF1 := Lib.hid (HF.out.next hb1); have HX1 := Lib.hid (HXr.out.next hb1); have HB1 := Lib.hid (HB.out.trans (hb1.mono HB.out.size))
          clear hb1
          go_wp2_with fail
          go_roundw
          case rel => exact ⟨1, by omega, rfl, by rw [HS2.out]; rfl, by rw [HI2.out], HF1.out, HX1.out, HB1.out⟩
          case measure => simp [intOf]
        · rw [hw] at HIk hs1
          rw [if_pos rfl] at hs1
          have hor : bits .or .u8 (sz 0 : Int) 1 = ((sz 0 + 1 : Nat) : Int) := or_bit 0 (by omega) (sz 0) (by omega) hz2 hz1
          have hadd : ∀ W, (Op.stringOp .add (it 0) id).run Tryz.prog W = .ok (.string (it 0 ++ id)) W := fun W => run_string_add_sum W _ _ (by omega)
          have HS2 := Lib.hid hs1; have HI2 := Lib.hid hi1
          clear hs1 hi1 hz1 hz2 his hw HId HS1 HI1 HSz HIs hk hlt hid
          generalize sz 0 = z at *
          generalize it 0 = t at *
          have hix : ∀ W, (Instr.index 23 (.agg #[.int .i64 a, .int .i64 b, .int .i64 c, .int .i64 d]) (.int .i64 0)).run Tryz.prog W = .ok (.int .i64 a) W := fun W => by kernel_rfl
          go_wp2_with fail
          refine (HIk.out _ HF.out).mono ?_
          rintro e w1 ⟨rfl, hb1⟩
          have HF1 := Lib.hid (HF.out.next hb1); have HX1 := Lib.hid (HXr.out.next hb1); have HB1 := Lib.hid (HB.out.trans (hb1.mono HB.out.size))
          clear hb1
          go_wp2_with fail
          go_roundw
          case rel => exact ⟨1, by omega, rfl, by rw [HS2.out]; rfl, by rw [HI2.out], HF1.out, HX1.out, HB1.out⟩
          case measure => simp [intOf]
      · have HIk : Hid (∀ W, Faces W → Calls Tryz.prog 69 #[.int .i64 b] W fun e w' => e = .returned (.tuple #[.string (cIdP (setN b)), .bool (wideP (setN b))]) ∧ Below W.heap.size W w') := Lib.hid (fun W t => HId.out 1 W t)
        have hs1 : sz 2 = sz 1 + (if wideP (setN b) = true then 2 ^ 1 else 0) := HS1.out 1
        have hi1 : it 2 = it 1 ++ cIdP (setN b) := HI1.out 1
        obtain ⟨hz1, hz2⟩ := HSz.out 1
        have his := HIs.out 1
        have hid := isoId_size (setN b) (setN_lt _)
        generalize cIdP (setN b) = id at *
        rcases hw : wideP (setN b) with _ | _
        · rw [hw] at HIk hs1
          rw [if_neg (by simp)] at hs1
          have hadd : ∀ W, (Op.stringOp .add (it 1) id).run Tryz.prog W = .ok (.string (it 1 ++ id)) W := fun W => run_string_add_sum W _ _ (by omega)
          have HS2 := Lib.hid hs1; have HI2 := Lib.hid hi1
          clear hs1 hi1 hz1 hz2 his hw HId HS1 HI1 HSz HIs hk hlt hid
          generalize sz 1 = z at *
          generalize it 1 = t at *
          have hix : ∀ W, (Instr.index 23 (.agg #[.int .i64 a, .int .i64 b, .int .i64 c, .int .i64 d]) (.int .i64 1)).run Tryz.prog W = .ok (.int .i64 b) W := fun W => by kernel_rfl
          go_wp2_with fail
          refine (HIk.out _ HF.out).mono ?_
          rintro e w1 ⟨rfl, hb1⟩
          have HF1 := Lib.hid (HF.out.next hb1); have HX1 := Lib.hid (HXr.out.next hb1); have HB1 := Lib.hid (HB.out.trans (hb1.mono HB.out.size))
          clear hb1
          go_wp2_with fail
          go_roundw
          case rel => exact ⟨2, by omega, rfl, by rw [HS2.out]; rfl, by rw [HI2.out], HF1.out, HX1.out, HB1.out⟩
          case measure => simp [intOf]
        · rw [hw] at HIk hs1
          rw [if_pos rfl] at hs1
          have hor : bits .or .u8 (sz 1 : Int) 2 = ((sz 1 + 2 : Nat) : Int) := or_bit 1 (by omega) (sz 1) (by omega) hz2 hz1
          have hadd : ∀ W, (Op.stringOp .add (it 1) id).run Tryz.prog W = .ok (.string (it 1 ++ id)) W := fun W => run_string_add_sum W _ _ (by omega)
          have HS2 := Lib.hid hs1; have HI2 := Lib.hid hi1
          clear hs1 hi1 hz1 hz2 his hw HId HS1 HI1 HSz HIs hk hlt hid
          generalize sz 1 = z at *
          generalize it 1 = t at *
          have hix : ∀ W, (Instr.index 23 (.agg #[.int .i64 a, .int .i64 b, .int .i64 c, .int .i64 d]) (.int .i64 1)).run Tryz.prog W = .ok (.int .i64 b) W := fun W => by kernel_rfl
          go_wp2_with fail
          refine (HIk.out _ HF.out).mono ?_
          rintro e w1 ⟨rfl, hb1⟩
          have HF1 := Lib.hid (HF.out.next hb1); have HX1 := Lib.hid (HXr.out.next hb1); have HB1 := Lib.hid (HB.out.trans (hb1.mono HB.out.size))
          clear hb1
          go_wp2_with fail
          go_roundw
          case rel => exact ⟨2, by omega, rfl, by rw [HS2.out]; rfl, by rw [HI2.out], HF1.out, HX1.out, HB1.out⟩
          case measure => simp [intOf]
      · have HIk : Hid (∀ W, Faces W → Calls Tryz.prog 69 #[.int .i64 c] W fun e w' => e = .returned (.tuple #[.string (cIdP (setN c)), .bool (wideP (setN c))]) ∧ Below W.heap.size W w') := Lib.hid (fun W t => HId.out 2 W t)
        have hs1 : sz 3 = sz 2 + (if wideP (setN c) = true then 2 ^ 2 else 0) := HS1.out 2
        have hi1 : it 3 = it 2 ++ cIdP (setN c) := HI1.out 2
        obtain ⟨hz1, hz2⟩ := HSz.out 2
        have his := HIs.out 2
        have hid := isoId_size (setN c) (setN_lt _)
        generalize cIdP (setN c) = id at *
        rcases hw : wideP (setN c) with _ | _
        · rw [hw] at HIk hs1
          rw [if_neg (by simp)] at hs1
          have hadd : ∀ W, (Op.stringOp .add (it 2) id).run Tryz.prog W = .ok (.string (it 2 ++ id)) W := fun W => run_string_add_sum W _ _ (by omega)
          have HS2 := Lib.hid hs1; have HI2 := Lib.hid hi1
          clear hs1 hi1 hz1 hz2 his hw HId HS1 HI1 HSz HIs hk hlt hid
          generalize sz 2 = z at *
          generalize it 2 = t at *
          have hix : ∀ W, (Instr.index 23 (.agg #[.int .i64 a, .int .i64 b, .int .i64 c, .int .i64 d]) (.int .i64 2)).run Tryz.prog W = .ok (.int .i64 c) W := fun W => by kernel_rfl
          go_wp2_with fail
          refine (HIk.out _ HF.out).mono ?_
          rintro e w1 ⟨rfl, hb1⟩
          have HF1 := Lib.hid (HF.out.next hb1); have HX1 := Lib.hid (HXr.out.next hb1); have HB1 := Lib.hid (HB.out.trans (hb1.mono HB.out.size))
          clear hb1
          go_wp2_with fail
          go_roundw
          case rel => exact ⟨3, by omega, rfl, by rw [HS2.out]; rfl, by rw [HI2.out], HF1.out, HX1.out, HB1.out⟩
          case measure => simp [intOf]
        · rw [hw] at HIk hs1
          rw [if_pos rfl] at hs1
          have hor : bits .or .u8 (sz 2 : Int) 4 = ((sz 2 + 4 : Nat) : Int) := or_bit 2 (by omega) (sz 2) (by omega) hz2 hz1
          have hadd : ∀ W, (Op.stringOp .add (it 2) id).run Tryz.prog W = .ok (.string (it 2 ++ id)) W := fun W => run_string_add_sum W _ _ (by omega)
          have HS2 := Lib.hid hs1; have HI2 := Lib.hid hi1
          clear hs1 hi1 hz1 hz2 his hw HId HS1 HI1 HSz HIs hk hlt hid
          generalize sz 2 = z at *
          generalize it 2 = t at *
          have hix : ∀ W, (Instr.index 23 (.agg #[.int .i64 a, .int .i64 b, .int .i64 c, .int .i64 d]) (.int .i64 2)).run Tryz.prog W = .ok (.int .i64 c) W := fun W => by kernel_rfl
          go_wp2_with fail
          refine (HIk.out _ HF.out).mono ?_
          rintro e w1 ⟨rfl, hb1⟩
          have HF1 := Lib.hid (HF.out.next hb1); have HX1 := Lib.hid (HXr.out.next hb1); have HB1 := Lib.hid (HB.out.trans (hb1.mono HB.out.size))
          clear hb1
          go_wp2_with fail
          go_roundw
          case rel => exact ⟨3, by omega, rfl, by rw [HS2.out]; rfl, by rw [HI2.out], HF1.out, HX1.out, HB1.out⟩
          case measure => simp [intOf]
      · have HIk : Hid (∀ W, Faces W → Calls Tryz.prog 69 #[.int .i64 d] W fun e w' => e = .returned (.tuple #[.string (cIdP (setN d)), .bool (wideP (setN d))]) ∧ Below W.heap.size W w') := Lib.hid (fun W t => HId.out 3 W t)
        have hs1 : sz 4 = sz 3 + (if wideP (setN d) = true then 2 ^ 3 else 0) := HS1.out 3
        have hi1 : it 4 = it 3 ++ cIdP (setN d) := HI1.out 3
        obtain ⟨hz1, hz2⟩ := HSz.out 3
        have his := HIs.out 3
        have hid := isoId_size (setN d) (setN_lt _)
        generalize cIdP (setN d) = id at *
        rcases hw : wideP (setN d) with _ | _
        · rw [hw] at HIk hs1
          rw [if_neg (by simp)] at hs1
          have hadd : ∀ W, (Op.stringOp .add (it 3) id).run Tryz.prog W = .ok (.string (it 3 ++ id)) W := fun W => run_string_add_sum W _ _ (by omega)
          have HS2 := Lib.hid hs1; have HI2 := Lib.hid hi1
          clear hs1 hi1 hz1 hz2 his hw HId HS1 HI1 HSz HIs hk hlt hid
          generalize sz 3 = z at *
          generalize it 3 = t at *
          have hix : ∀ W, (Instr.index 23 (.agg #[.int .i64 a, .int .i64 b, .int .i64 c, .int .i64 d]) (.int .i64 3)).run Tryz.prog W = .ok (.int .i64 d) W := fun W => by kernel_rfl
          go_wp2_with fail
          refine (HIk.out _ HF.out).mono ?_
          rintro e w1 ⟨rfl, hb1⟩
          have HF1 := Lib.hid (HF.out.next hb1); have HX1 := Lib.hid (HXr.out.next hb1); have HB1 := Lib.hid (HB.out.trans (hb1.mono HB.out.size))
          clear hb1
          go_wp2_with fail
          go_roundw
          case rel => exact ⟨4, by omega, rfl, by rw [HS2.out]; rfl, by rw [HI2.out], HF1.out, HX1.out, HB1.out⟩
          case measure => simp [intOf]
        · rw [hw] at HIk hs1
          rw [if_pos rfl] at hs1
          have hor : bits .or .u8 (sz 3 : Int) 8 = ((sz 3 + 8 : Nat) : Int) := or_bit 3 (by omega) (sz 3) (by omega) hz2 hz1
          have hadd : ∀ W, (Op.stringOp .add (it 3) id).run Tryz.prog W = .ok (.string (it 3 ++ id)) W := fun W => run_string_add_sum W _ _ (by omega)
          have HS2 := Lib.hid hs1; have HI2 := Lib.hid hi1
          clear hs1 hi1 hz1 hz2 his hw HId HS1 HI1 HSz HIs hk hlt hid
          generalize sz 3 = z at *
          generalize it 3 = t at *
          have hix : ∀ W, (Instr.index 23 (.agg #[.int .i64 a, .int .i64 b, .int .i64 c, .int .i64 d]) (.int .i64 3)).run Tryz.prog W = .ok (.int .i64 d) W := fun W => by kernel_rfl
          go_wp2_with fail
          refine (HIk.out _ HF.out).mono ?_
          rintro e w1 ⟨rfl, hb1⟩
          have HF1 := Lib.hid (HF.out.next hb1); have HX1 := Lib.hid (HXr.out.next hb1); have HB1 := Lib.hid (HB.out.trans (hb1.mono HB.out.size))
          clear hb1
          go_wp2_with fail
          go_roundw
          case rel => exact ⟨4, by omega, rfl, by rw [HS2.out]; rfl, by rw [HI2.out], HF1.out, HX1.out, HB1.out⟩
          case measure => simp [intOf]
    · obtain rfl : k = 4 := by omega
      obtain ⟨c0, c1, c2, c3, c4, c5, c6⟩ := seven HXr.out
      clear HId HS1 HI1 HSz HIs h0 i0
      clear c0 c1 c2 c3 c4 c5 c6
      have HCe := Lib.hid (fun w' (h : Only [] wr w') => seven (HXr.out.next h.below0))
      go_wp2_with fail
      refine wp_region_mix_lit (by kernel_rfl) [(1, .call (.int .i64 lp)), (3, .call (.int .i64 rp))] (by kernel_rfl) (by kernel_rfl) (by kernel_rfl) (by rfl) (by simp [apartK] <;> omega) (by simp [startK]) (by simp [stabK]) (⟨fun _ => undef, by simp [okK]⟩) (fun β hβ => ?_)
      repeat (
        refine lex_val (v := ?_) rfl rfl (fun w' hf => ?_) ?_
        rotate_left
        · obtain ⟨c0, c1, c2, c3, c4, c5, c6⟩ := HCe.out w' hf.only; go_simp
          try rfl
        try simp only [Act.put, List.setIfInBounds_toArray, List.set_cons_zero, List.set_cons_succ])
      refine lex_call (f := 70) (args := ?_) rfl rfl (fun w' hf => ?_) (fun w' hf => ?_) ?_
      rotate_left
      · obtain ⟨c0, c1, c2, c3, c4, c5, c6⟩ := HCe.out w' hf.only; go_simp
        try rfl
      · obtain ⟨c0, c1, c2, c3, c4, c5, c6⟩ := HCe.out w' hf.only; exact HL.out w'
      try simp only [Act.put, List.setIfInBounds_toArray, List.set_cons_zero, List.set_cons_succ]
      repeat (
        refine lex_val (v := ?_) rfl rfl (fun w' hf => ?_) ?_
        rotate_left
        · obtain ⟨c0, c1, c2, c3, c4, c5, c6⟩ := HCe.out w' hf.only; go_simp
          try rfl
        try simp only [Act.put, List.setIfInBounds_toArray, List.set_cons_zero, List.set_cons_succ])
      refine lex_call (f := 71) (args := ?_) rfl rfl (fun w' hf => ?_) (fun w' hf => ?_) ?_
      rotate_left
      · obtain ⟨c0, c1, c2, c3, c4, c5, c6⟩ := HCe.out w' hf.only; go_simp
        try rfl
      · obtain ⟨c0, c1, c2, c3, c4, c5, c6⟩ := HCe.out w' hf.only; exact HR.out w'
      try simp only [Act.put, List.setIfInBounds_toArray, List.set_cons_zero, List.set_cons_succ]
      repeat (
        refine lex_val (v := ?_) rfl rfl (fun w' hf => ?_) ?_
        rotate_left
        · obtain ⟨c0, c1, c2, c3, c4, c5, c6⟩ := HCe.out w' hf.only; go_simp
          try rfl
        try simp only [Act.put, List.setIfInBounds_toArray, List.set_cons_zero, List.set_cons_succ])
      refine lex_nil fun w' he => ?_
      have HB1 := Lib.hid (HB.out.trans (he.only.below0.mono HB.out.size))
      clear he
      go_wp2_with fail
      exact bodyPost_ret (v := .tuple #[.int .i64 lp, .int .i64 rp, .int .u8 (sz 4 : Nat), .string (it 4)]) (by simp [results, Tryz.results25, go_sem]) rfl ⟨rfl, HB1.out⟩
end Go.Proofs.YtfnamfkjbkhgeaaGreatDoor

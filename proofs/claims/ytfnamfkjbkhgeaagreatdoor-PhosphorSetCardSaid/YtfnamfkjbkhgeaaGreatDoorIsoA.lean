/-
  States of sets: which of the four; a new one; what is invoked.
-/
import Derived.Test.YtfnamfkjbkhgeaaGreatDoorChsN
namespace Go.Proofs.YtfnamfkjbkhgeaaGreatDoor

open Go Go.RowKit

/-- A state of sets, as its seven cells. -/
structure Iso where
  a : Int
  b : Int
  c : Int
  d : Int
  l : Int
  r : Int
  s : Int
def Iso.cs (x : Iso) : Array Value := #[.int .i64 x.a, .int .i64 x.b, .int .i64 x.c, .int .i64 x.d, .int .i64 x.l, .int .i64 x.r, .int .i64 x.s]
def Iso.val (x : Iso) : Value := .agg x.cs
def isoInB (lo g : Int) : Bool := decide (lo ≤ g) && decide (g ≤ 3)
theorem isOne_any (g : Int) (w : World) : Calls Tryz.prog 105 #[.int .i64 g] w fun e w' => e = .returned (.bool (isoInB 0 g)) ∧ w = w' := by
  unfold isoInB
  rcases h1 : decide (0 ≤ g) with _ | _
  · go_enter Tryz.func105, Tryz.ntmps105
    go_wp2_with fail
    go_ret
    exact ⟨rfl, rfl⟩
  · rcases h2 : decide (g ≤ 3) with _ | _
    all_goals
      go_enter Tryz.func105, Tryz.ntmps105
      go_wp2_with fail
      go_ret
      exact ⟨rfl, rfl⟩
theorem isRight_any (g : Int) (w : World) : Calls Tryz.prog 112 #[.int .i64 g] w fun e w' => e = .returned (.bool (isoInB 1 g)) ∧ w = w' := by
  unfold isoInB
  rcases h1 : decide (1 ≤ g) with _ | _
  · go_enter Tryz.func112, Tryz.ntmps112
    go_wp2_with fail
    go_ret
    exact ⟨rfl, rfl⟩
  · rcases h2 : decide (g ≤ 3) with _ | _
    all_goals
      go_enter Tryz.func112, Tryz.ntmps112
      go_wp2_with fail
      go_ret
      exact ⟨rfl, rfl⟩
def sinB (g : Int) : Bool := (g == 2) || (g == 3)

def newI : Iso := ⟨1, 1, 4, 4, 0, 2, 0⟩
set_option maxHeartbeats 1000000 in
theorem isoNew_any (w : World) : Calls Tryz.prog 98 #[] w fun e w' => e = .returned newI.val ∧ Below w.heap.size w w' := by
  go_enter Tryz.func98, Tryz.ntmps98
  go_wp2_with fail
  exact bodyPost_ret (v := newI.val) (by simp [results, Tryz.results98, go_sem, newI, Iso.val, Iso.cs]) rfl ⟨rfl, (Below.refl _ _).alloc (Nat.le_refl _) _⟩
def leftP (x : Iso) : Int := if isoInB 0 x.l = true then x.l else 0
def rightP (x : Iso) : Int := if isoInB 0 x.r = true then x.r else 2
set_option maxHeartbeats 1000000 in
theorem left_any (x : Iso) (w : World) : Calls Tryz.prog 70 #[x.val] w fun e w' => e = .returned (.int .i64 (leftP x)) ∧ Below w.heap.size w w' := by
  have HI := Lib.hid (fun W => isOne_any x.l W)
  have HB := Lib.hid (show ∀ o, Below w.heap.size w (w.alloc o) from fun o => (Below.refl _ _).alloc (Nat.le_refl _) o)
  unfold leftP Iso.val Iso.cs
  obtain ⟨a, b, c, d, l, r, s⟩ := x
  simp only at HI ⊢
  rcases h : isoInB 0 l with _ | _
  all_goals
    rw [h] at HI
    clear h
    go_enter Tryz.func70, Tryz.ntmps70
    go_wp2_with fail
    refine (HI.out _).mono ?_
    rintro e w1 ⟨rfl, rfl⟩
    go_wp2_with fail
    go_ret
    exact ⟨rfl, HB.out _⟩
set_option maxHeartbeats 1000000 in
theorem right_any (x : Iso) (w : World) : Calls Tryz.prog 71 #[x.val] w fun e w' => e = .returned (.int .i64 (rightP x)) ∧ Below w.heap.size w w' := by
  have HI := Lib.hid (fun W => isOne_any x.r W)
  have HB := Lib.hid (show ∀ o, Below w.heap.size w (w.alloc o) from fun o => (Below.refl _ _).alloc (Nat.le_refl _) o)
  unfold rightP Iso.val Iso.cs
  obtain ⟨a, b, c, d, l, r, s⟩ := x
  simp only at HI ⊢
  rcases h : isoInB 0 r with _ | _
  all_goals
    rw [h] at HI
    clear h
    go_enter Tryz.func71, Tryz.ntmps71
    go_wp2_with fail
    refine (HI.out _).mono ?_
    rintro e w1 ⟨rfl, rfl⟩
    go_wp2_with fail
    go_ret
    exact ⟨rfl, HB.out _⟩
def leftI (x : Iso) (g : Int) : Iso := if isoInB 0 g = true then { x with l := g } else x
set_option maxHeartbeats 2000000 in
theorem isoLeft_any (x : Iso) (g : Int) (w : World) : Calls Tryz.prog 113 #[x.val, .int .i64 g] w fun e w' => e = .returned (leftI x g).val ∧ Below w.heap.size w w' := by
  have HI := Lib.hid (fun W => isOne_any g W)
  obtain ⟨a, b, c, d, l, r, s⟩ := x
  rcases h : isoInB 0 g with _ | _
  · rw [h] at HI
    rw [show leftI ⟨a, b, c, d, l, r, s⟩ g = ⟨a, b, c, d, l, r, s⟩ from if_neg (by rw [h]; simp)]
    unfold Iso.val Iso.cs
    clear h
    go_enter Tryz.func113, Tryz.ntmps113
    go_wp2_with fail
    refine (HI.out _).mono ?_
    rintro e w1 ⟨rfl, rfl⟩
    go_wp2_with fail
    exact bodyPost_ret (v := .agg #[.int .i64 a, .int .i64 b, .int .i64 c, .int .i64 d, .int .i64 l, .int .i64 r, .int .i64 s]) (by simp [results, Tryz.results113, go_sem]) rfl ⟨rfl, ((Below.refl _ _).alloc (Nat.le_refl _) _).alloc (by simp) _⟩
  · rw [h] at HI
    rw [show leftI ⟨a, b, c, d, l, r, s⟩ g = { (⟨a, b, c, d, l, r, s⟩ : Iso) with l := g } from if_pos h]
    unfold Iso.val Iso.cs
    clear h
    go_enter Tryz.func113, Tryz.ntmps113
    go_wp2_with fail
    refine (HI.out _).mono ?_
    rintro e w1 ⟨rfl, rfl⟩
    go_wp2_with fail
    exact bodyPost_ret (v := .agg #[.int .i64 a, .int .i64 b, .int .i64 c, .int .i64 d, .int .i64 g, .int .i64 r, .int .i64 s]) (by simp [results, Tryz.results113, go_sem]) rfl ⟨rfl, ((Below.refl _ _).alloc (Nat.le_refl _) _).alloc (by simp) _⟩
def rightI (x : Iso) (g : Int) : Iso := if isoInB 1 g = true then { x with r := g } else x
set_option maxHeartbeats 2000000 in
theorem isoRight_any (x : Iso) (g : Int) (w : World) : Calls Tryz.prog 114 #[x.val, .int .i64 g] w fun e w' => e = .returned (rightI x g).val ∧ Below w.heap.size w w' := by
  have HI := Lib.hid (fun W => isRight_any g W)
  obtain ⟨a, b, c, d, l, r, s⟩ := x
  rcases h : isoInB 1 g with _ | _
  · rw [h] at HI
    rw [show rightI ⟨a, b, c, d, l, r, s⟩ g = ⟨a, b, c, d, l, r, s⟩ from if_neg (by rw [h]; simp)]
    unfold Iso.val Iso.cs
    clear h
    go_enter Tryz.func114, Tryz.ntmps114
    go_wp2_with fail
    refine (HI.out _).mono ?_
    rintro e w1 ⟨rfl, rfl⟩
    go_wp2_with fail
    exact bodyPost_ret (v := .agg #[.int .i64 a, .int .i64 b, .int .i64 c, .int .i64 d, .int .i64 l, .int .i64 r, .int .i64 s]) (by simp [results, Tryz.results114, go_sem]) rfl ⟨rfl, ((Below.refl _ _).alloc (Nat.le_refl _) _).alloc (by simp) _⟩
  · rw [h] at HI
    rw [show rightI ⟨a, b, c, d, l, r, s⟩ g = { (⟨a, b, c, d, l, r, s⟩ : Iso) with r := g } from if_pos h]
    unfold Iso.val Iso.cs
    clear h
    go_enter Tryz.func114, Tryz.ntmps114
    go_wp2_with fail
    refine (HI.out _).mono ?_
    rintro e w1 ⟨rfl, rfl⟩
    go_wp2_with fail
    exact bodyPost_ret (v := .agg #[.int .i64 a, .int .i64 b, .int .i64 c, .int .i64 d, .int .i64 l, .int .i64 g, .int .i64 s]) (by simp [results, Tryz.results114, go_sem]) rfl ⟨rfl, ((Below.refl _ _).alloc (Nat.le_refl _) _).alloc (by simp) _⟩
def onceI (x : Iso) (g : Int) : Iso := if sinB g = true then { x with s := g } else x

def meantP (x : Iso) (c : Nat) : Int := if sinB x.s = true then x.s else if c < 128 then leftP x else rightP x
theorem and_high : ∀ n : Nat, n < 256 → (bits .and .u8 (n : Int) 128 == 0) = decide (n < 128) := by decide +kernel

end Go.Proofs.YtfnamfkjbkhgeaaGreatDoor

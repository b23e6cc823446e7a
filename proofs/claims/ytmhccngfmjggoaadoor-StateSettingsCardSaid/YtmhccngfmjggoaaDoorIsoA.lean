/-
  States of sets: which of the four; a new one; what is invoked.
-/
import Derived.Test.YtmhccngfmjggoaaDoorChsN
namespace Go.Proofs.YtmhccngfmjggoaaDoor

open Go Go.RowKit

/-- A state of sets, as its seven cells. -/
structure Iso where
  a : Int
  b : Int
  c : Int
  d : Int
  l : Int
  r : Int
  s : Int
def Iso.cs (x : Iso) : Array Value := #[.int .i64 x.a, .int .i64 x.b, .int .i64 x.c, .int .i64 x.d, .int .i64 x.l, .int .i64 x.r, .int .i64 x.s]
def Iso.val (x : Iso) : Value := .agg x.cs
def inB (lo g : Int) : Bool := decide (lo ≤ g) && decide (g ≤ 3)
theorem isOne_any (g : Int) (w : World) : Calls Tryd.prog 69 #[.int .i64 g] w fun e w' => e = .returned (.bool (inB 0 g)) ∧ w = w' := by
  unfold inB
  rcases h1 : decide (0 ≤ g) with _ | _
  · go_enter Tryd.func69, Tryd.ntmps69
    go_wp2_with fail
    go_ret
    exact ⟨rfl, rfl⟩
  · rcases h2 : decide (g ≤ 3) with _ | _
    all_goals
      go_enter Tryd.func69, Tryd.ntmps69
      go_wp2_with fail
      go_ret
      exact ⟨rfl, rfl⟩

def sinB (g : Int) : Bool := (g == 2) || (g == 3)

def newI : Iso := ⟨1, 1, 4, 4, 0, 2, 0⟩
set_option maxHeartbeats 1000000 in
theorem isoNew_any (w : World) : Calls Tryd.prog 50 #[] w fun e w' => e = .returned newI.val ∧ Below w.heap.size w w' := by
  go_enter Tryd.func50, Tryd.ntmps50
  go_wp2_with fail
  exact bodyPost_ret (v := newI.val) (by simp [results, Tryd.results50, go_sem, newI, Iso.val, Iso.cs]) rfl ⟨rfl, (Below.refl _ _).alloc (Nat.le_refl _) _⟩
def leftP (x : Iso) : Int := if inB 0 x.l = true then x.l else 0
def rightP (x : Iso) : Int := if inB 0 x.r = true then x.r else 2
set_option maxHeartbeats 1000000 in
theorem left_any (x : Iso) (w : World) : Calls Tryd.prog 53 #[x.val] w fun e w' => e = .returned (.int .i64 (leftP x)) ∧ Below w.heap.size w w' := by
  have HI := Lib.hid (fun W => isOne_any x.l W)
  have HB := Lib.hid (show ∀ o, Below w.heap.size w (w.alloc o) from fun o => (Below.refl _ _).alloc (Nat.le_refl _) o)
  unfold leftP Iso.val Iso.cs
  obtain ⟨a, b, c, d, l, r, s⟩ := x
  simp only at HI ⊢
  rcases h : inB 0 l with _ | _
  all_goals
    rw [h] at HI
    clear h
    go_enter Tryd.func53, Tryd.ntmps53
    go_wp2_with fail
    refine (HI.out _).mono ?_
    rintro e w1 ⟨rfl, rfl⟩
    go_wp2_with fail
    go_ret
    exact ⟨rfl, HB.out _⟩
set_option maxHeartbeats 1000000 in
theorem right_any (x : Iso) (w : World) : Calls Tryd.prog 54 #[x.val] w fun e w' => e = .returned (.int .i64 (rightP x)) ∧ Below w.heap.size w w' := by
  have HI := Lib.hid (fun W => isOne_any x.r W)
  have HB := Lib.hid (show ∀ o, Below w.heap.size w (w.alloc o) from fun o => (Below.refl _ _).alloc (Nat.le_refl _) o)
  unfold rightP Iso.val Iso.cs
  obtain ⟨a, b, c, d, l, r, s⟩ := x
  simp only at HI ⊢
  rcases h : inB 0 r with _ | _
  all_goals
    rw [h] at HI
    clear h
    go_enter Tryd.func54, Tryd.ntmps54
    go_wp2_with fail
    refine (HI.out _).mono ?_
    rintro e w1 ⟨rfl, rfl⟩
    go_wp2_with fail
    go_ret
    exact ⟨rfl, HB.out _⟩
def leftI (x : Iso) (g : Int) : Iso := if inB 0 g = true then { x with l := g } else x

def rightI (x : Iso) (g : Int) : Iso := if inB 1 g = true then { x with r := g } else x

def onceI (x : Iso) (g : Int) : Iso := if sinB g = true then { x with s := g } else x

def meantP (x : Iso) (c : Nat) : Int := if sinB x.s = true then x.s else if c < 128 then leftP x else rightP x
theorem and_high : ∀ n : Nat, n < 256 → (bits .and .u8 (n : Int) 128 == 0) = decide (n < 128) := by decide +kernel

end Go.Proofs.YtmhccngfmjggoaaDoor

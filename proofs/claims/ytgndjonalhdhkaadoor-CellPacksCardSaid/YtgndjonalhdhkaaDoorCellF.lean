/-
  Slices of cells of the call's own; slices of rows; how checksums add up.
-/
import Derived.Test.YtgndjonalhdhkaaDoorCellE
import Derived.Test.YtgndjonalhdhkaaDoorKit3
namespace Go.Proofs.YtgndjonalhdhkaaDoor

open Go.RowKit

theorem rrows_new (w : World) (T : TypeId) (rows : List Rw) (cs : Array Value) (hcs : cs = (rows.map Rw.val).toArray) (g : Nat) (hg : g = w.heap.size) (h : ∀ x ∈ rows, RCells w x.A x.l) :
    RRows (w.alloc (.cells cs T)) (some ⟨g, 0, none⟩) rows := by
  subst hg hcs
  refine ⟨⟨by simp, fun _ => ⟨_, rfl, by simp, fun j u hu => ?_⟩⟩, fun x hx => (h x hx).next ((Below.refl _ _).alloc (Nat.le_refl _) _)⟩
  have hadd : (⟨w.heap.size, 0, none⟩ : Addr).add j = ⟨w.heap.size, j, none⟩ := by unfold Addr.add; split <;> simp_all
  rw [hadd, (Blk.new w T _).cell j]
  simpa using hu
theorem rrows_nil (w : World) : RRows w none [] := ⟨⟨rfl, fun h => absurd h (by simp)⟩, fun _ h => by simp at h⟩
theorem sumC_app (s : Int) (a b : List Cl) : sumC s (a ++ b) = sumC (sumC s a) b := by simp [sumC]
theorem sumC_from (l : List Cl) : ∀ {s : Int}, 0 ≤ s → s < 65536 → sumC s l = (s + sumC 0 l) % 65536 := by
  induction l with
  | nil => intro s a b; simp [sumC]; omega
  | cons c l ih =>
    intro s a b
    have h1 := Cl.w_range c
    show sumC ((s + c.w) % 65536) l = (s + sumC ((0 + c.w) % 65536) l) % 65536
    rw [ih (s := (s + c.w) % 65536) (by omega) (by omega), ih (s := (0 + c.w) % 65536) (by omega) (by omega)]
    omega
theorem sumR_one (A : Option Addr) (c : Nat) (l : List Cl) : sumR 0 [⟨A, c, l⟩] = sumC 0 l := rfl
theorem sumR_two (A B : Option Addr) (c d : Nat) (l m : List Cl) : sumR 0 [⟨A, c, l⟩, ⟨B, d, m⟩] = sumC 0 (l ++ m) := (sumC_app 0 l m).symm
/-- Sum of one row. -/
theorem sum_one (A : Option Addr) (c d : Nat) (l : List Cl) (hl : l.length ≤ 100000) (hok : OkCells l) (w : World) (ht : Tab w) (hr : RCells w A l) (g : Nat) (hg : g = w.heap.size) (T : TypeId) :
    Calls Tryd.prog 13 #[.slice (some ⟨g, 0, none⟩) 1 d] (w.alloc (.cells #[.slice A l.length c] T)) fun e w' => e = .returned (.int .i64 (sumC 0 l)) ∧ Below w.heap.size w w' := by
  have hb0 : Below w.heap.size w (w.alloc (.cells #[.slice A l.length c] T)) := (Below.refl _ _).alloc (Nat.le_refl _) _
  refine (sum_any _ d [⟨A, c, l⟩] (by simp) ?_ _ (ht.next hb0) (rrows_new w T [⟨A, c, l⟩] _ rfl g hg ?_)).mono ?_
  · intro x hx
    obtain rfl : x = ⟨A, c, l⟩ := by simpa using hx
    exact ⟨hok, by show l.length ≤ _; omega⟩
  · intro x hx
    obtain rfl : x = ⟨A, c, l⟩ := by simpa using hx
    exact hr
  · rintro e w1 ⟨rfl, hb1⟩
    exact ⟨rfl, hb0.trans (hb1.mono hb0.size)⟩
theorem two_rows {P : Rw → Prop} {x y : Rw} (hx : P x) (hy : P y) : ∀ z ∈ [x, y], P z := by
  intro z hz
  simp at hz
  rcases hz with rfl | rfl
  · exact hx
  · exact hy
/-- Sum of two rows; what negates it. -/
theorem sum_two (A B : Option Addr) (c c' d : Nat) (l m : List Cl) (hl : l.length ≤ 100000) (hm : m.length ≤ 100000) (hok : OkCells l) (hok' : OkCells m) (w : World) (ht : Tab w) (hr : RCells w A l) (hr' : RCells w B m) (g : Nat) (hg : g = w.heap.size) (T : TypeId) :
    Calls Tryd.prog 13 #[.slice (some ⟨g, 0, none⟩) 2 d] (w.alloc (.cells #[.slice A l.length c, .slice B m.length c'] T)) fun e w' => e = .returned (.int .i64 (sumC 0 (l ++ m))) ∧ Below w.heap.size w w' := by
  have hb0 : Below w.heap.size w (w.alloc (.cells #[.slice A l.length c, .slice B m.length c'] T)) := (Below.refl _ _).alloc (Nat.le_refl _) _
  refine (sum_any _ d [⟨A, c, l⟩, ⟨B, c', m⟩] (by simp) (two_rows ⟨hok, by show l.length ≤ _; omega⟩ ⟨hok', by show m.length ≤ _; omega⟩) _ (ht.next hb0) (rrows_new w T [⟨A, c, l⟩, ⟨B, c', m⟩] _ rfl g hg (two_rows hr hr'))).mono ?_
  rintro e w1 ⟨rfl, hb1⟩
  exact ⟨by rw [sumR_two], hb0.trans (hb1.mono hb0.size)⟩
theorem neg_two (A B : Option Addr) (c c' d : Nat) (l m : List Cl) (hl : l.length ≤ 100000) (hm : m.length ≤ 100000) (hok : OkCells l) (hok' : OkCells m) (w : World) (ht : Tab w) (hr : RCells w A l) (hr' : RCells w B m) (g : Nat) (hg : g = w.heap.size) (T : TypeId) :
    Calls Tryd.prog 14 #[.slice (some ⟨g, 0, none⟩) 2 d] (w.alloc (.cells #[.slice A l.length c, .slice B m.length c'] T)) fun e w' => e = .returned (.int .i64 ((65536 - sumC 0 (l ++ m)) % 65536)) ∧ Below w.heap.size w w' := by
  have hb0 : Below w.heap.size w (w.alloc (.cells #[.slice A l.length c, .slice B m.length c'] T)) := (Below.refl _ _).alloc (Nat.le_refl _) _
  refine (negated_any _ d [⟨A, c, l⟩, ⟨B, c', m⟩] (by simp) (two_rows ⟨hok, by show l.length ≤ _; omega⟩ ⟨hok', by show m.length ≤ _; omega⟩) _ (ht.next hb0) (rrows_new w T [⟨A, c, l⟩, ⟨B, c', m⟩] _ rfl g hg (two_rows hr hr'))).mono ?_
  rintro e w1 ⟨rfl, hb1⟩
  exact ⟨by rw [sumR_two], hb0.trans (hb1.mono hb0.size)⟩
end Go.Proofs.YtgndjonalhdhkaaDoor

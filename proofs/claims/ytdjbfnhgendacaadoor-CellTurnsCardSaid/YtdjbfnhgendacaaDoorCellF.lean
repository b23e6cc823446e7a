/-
  Slices of cells of the call's own; slices of rows; how checksums add up.
-/
import Derived.Test.YtdjbfnhgendacaaDoorCellE
import Derived.Test.YtdjbfnhgendacaaDoorKit3
namespace Go.Proofs.YtdjbfnhgendacaaDoor
open Go.RowKit

def OCells (w : World) (base : Nat) (v : Value) (l : List Cl) : Prop := w.ownsRow base 44 3 v l.length (l.flatMap Cl.cells)
theorem info_cell : (Tryd.prog.info? 44).map (fun i => (i.zero, i.size, i.bytes)) = some (some (.agg #[.int .i32 0, .int .u8 0, .bool false]), 3, 8) := by kernel_rfl
theorem OCells.reads {w : World} {base : Nat} {A : Option Addr} {c : Nat} {l : List Cl} (h : OCells w base (.slice A l.length c) l) : RCells w A l := Reads.of_own h
theorem OCells.form {w : World} {base : Nat} {v : Value} {l : List Cl} (h : OCells w base v l) : ∃ A c, v = .slice A l.length c ∧ l.length ≤ c := by
  rcases h.2 with ⟨rfl, hn⟩ | ⟨g, cap, _, rfl, _, _, hle, _⟩
  · exact ⟨none, 0, by rw [hn], by omega⟩
  · exact ⟨_, _, rfl, hle⟩
theorem OCells.next {w w' : World} {base : Nat} {v : Value} {l : List Cl} (h : OCells w base v l) (hb : Below w.heap.size w w') : OCells w' base v l :=
  World.ownsRow.kept (row := none) h ⟨hb.os, hb.tape, hb.output, hb.size, fun k hk _ => hb.block k hk⟩ (by cases v.ownBlock <;> simp)
theorem cells_one (l : List Cl) : ∀ u ∈ l.flatMap Cl.cells, u.oneCell' = true := by
  intro u hu
  obtain ⟨c, _, hc⟩ := List.mem_flatMap.1 hu
  simp [Cl.cells] at hc
  rcases hc with rfl | rfl | rfl <;> rfl

set_option maxHeartbeats 1000000 in
theorem cells_any (A : Option Addr) (c : Nat) (l : List Cl) (hl : l.length ≤ 100000) (w : World) (hr : RCells w A l) :
    Calls Tryd.prog 36 #[.slice A l.length c] w fun e w' => ∃ v, e = .returned v ∧ OCells w' w.heap.size v l ∧ Below w.heap.size w w' := by
  obtain ⟨i0, hi0, hz0, hz1, hz2⟩ := info_parts info_cell
  have HI := Lib.hid hi0; have HZ0 := Lib.hid hz0; have HZ1 := Lib.hid hz1; have HZ2 := Lib.hid hz2
  clear hi0 hz0 hz1 hz2
  have hb0 : Below w.heap.size w (w.alloc (.cells #[] 44)) := (Below.refl _ _).alloc (Nat.le_refl _) _
  have HR : Hid (Reads (w.alloc (.cells #[] 44)) w.heap.size 3 A l.length (l.flatMap Cl.cells)) := Lib.hid (Reads.below hr hb0)
  have HO := Lib.hid (World.ownsRow_lit (e := 44) (size := 3) w #[] 0 (Nat.le_refl _) (Nat.zero_le _) rfl)
  go_enter Tryd.func36, Tryd.ntmps36
  go_wp2_with (at_builtin; refine wpList_append_any _ rfl _ _ 47 rfl w.heap.size 44 i0 _ 3 8 Tryd.underlying47 HI.out HZ0.out HZ1.out HZ2.out rfl (by decide) _ _ _ rfl HO.out w.heap.size A l.length c _ rfl HR.out (cells_one l) (by unfold maxLen; omega) (by omega) (by simp) ?_; intro v' w2 hown2 hg2 hat2)
  have hb1 : Below w.heap.size (w.alloc (.cells #[] 44)) w2 := (Below.refl _ _).grown hg2 (by simp) (fun k hk => Nat.le_of_eq (Option.some.inj hk))
  go_wp2
  go_ret
  exact ⟨v', rfl, by simpa [OCells] using hown2, hb0.trans hb1⟩

theorem rrows_new (w : World) (T : TypeId) (rows : List Rw) (cs : Array Value) (hcs : cs = (rows.map Rw.val).toArray) (g : Nat) (hg : g = w.heap.size) (h : ∀ x ∈ rows, RCells w x.A x.l) :
    RRows (w.alloc (.cells cs T)) (some ⟨g, 0, none⟩) rows := by
  subst hg hcs
  refine ⟨⟨by simp, fun _ => ⟨_, rfl, by simp, fun j u hu => ?_⟩⟩, fun x hx => (h x hx).next ((Below.refl _ _).alloc (Nat.le_refl _) _)⟩
  have hadd : (⟨w.heap.size, 0, none⟩ : Addr).add j = ⟨w.heap.size, j, none⟩ := by unfold Addr.add; split <;> simp_all
  rw [hadd, (Blk.new w T _).cell j]
  simpa using hu
theorem rrows_nil (w : World) : RRows w none [] := ⟨⟨rfl, fun h => absurd h (by simp)⟩, fun _ h => by simp at h⟩
theorem sumC_app (s : Int) (a b : List Cl) : sumC s (a ++ b) = sumC (sumC s a) b := by simp [sumC]
theorem sumC_from (l : List Cl) : ∀ {s : Int}, 0 ≤ s → s < 65536 → sumC s l = (s + sumC 0 l) % 65536 := by
  induction l with
  | nil => intro s a b; simp [sumC]; omega
  | cons c l ih =>
    intro s a b
    have h1 := Cl.w_range c
    show sumC ((s + c.w) % 65536) l = (s + sumC ((0 + c.w) % 65536) l) % 65536
    rw [ih (s := (s + c.w) % 65536) (by omega) (by omega), ih (s := (0 + c.w) % 65536) (by omega) (by omega)]
    omega
theorem sumR_one (A : Option Addr) (c : Nat) (l : List Cl) : sumR 0 [⟨A, c, l⟩] = sumC 0 l := rfl
theorem sumR_two (A B : Option Addr) (c d : Nat) (l m : List Cl) : sumR 0 [⟨A, c, l⟩, ⟨B, d, m⟩] = sumC 0 (l ++ m) := (sumC_app 0 l m).symm
/-- Sum of one row. -/
theorem sum_one (A : Option Addr) (c d : Nat) (l : List Cl) (hl : l.length ≤ 100000) (hok : OkCells l) (w : World) (ht : Tab w) (hr : RCells w A l) (g : Nat) (hg : g = w.heap.size) (T : TypeId) :
    Calls Tryd.prog 34 #[.slice (some ⟨g, 0, none⟩) 1 d] (w.alloc (.cells #[.slice A l.length c] T)) fun e w' => e = .returned (.int .i64 (sumC 0 l)) ∧ Below w.heap.size w w' := by
  have hb0 : Below w.heap.size w (w.alloc (.cells #[.slice A l.length c] T)) := (Below.refl _ _).alloc (Nat.le_refl _) _
  refine (sum_any _ d [⟨A, c, l⟩] (by simp) ?_ _ (ht.next hb0) (rrows_new w T [⟨A, c, l⟩] _ rfl g hg ?_)).mono ?_
  · intro x hx
    obtain rfl : x = ⟨A, c, l⟩ := by simpa using hx
    exact ⟨hok, by show l.length ≤ _; omega⟩
  · intro x hx
    obtain rfl : x = ⟨A, c, l⟩ := by simpa using hx
    exact hr
  · rintro e w1 ⟨rfl, hb1⟩
    exact ⟨rfl, hb0.trans (hb1.mono hb0.size)⟩
theorem two_rows {P : Rw → Prop} {x y : Rw} (hx : P x) (hy : P y) : ∀ z ∈ [x, y], P z := by
  intro z hz
  simp at hz
  rcases hz with rfl | rfl
  · exact hx
  · exact hy
/-- Sum of two rows; what negates it. -/
theorem sum_two (A B : Option Addr) (c c' d : Nat) (l m : List Cl) (hl : l.length ≤ 100000) (hm : m.length ≤ 100000) (hok : OkCells l) (hok' : OkCells m) (w : World) (ht : Tab w) (hr : RCells w A l) (hr' : RCells w B m) (g : Nat) (hg : g = w.heap.size) (T : TypeId) :
    Calls Tryd.prog 34 #[.slice (some ⟨g, 0, none⟩) 2 d] (w.alloc (.cells #[.slice A l.length c, .slice B m.length c'] T)) fun e w' => e = .returned (.int .i64 (sumC 0 (l ++ m))) ∧ Below w.heap.size w w' := by
  have hb0 : Below w.heap.size w (w.alloc (.cells #[.slice A l.length c, .slice B m.length c'] T)) := (Below.refl _ _).alloc (Nat.le_refl _) _
  refine (sum_any _ d [⟨A, c, l⟩, ⟨B, c', m⟩] (by simp) (two_rows ⟨hok, by show l.length ≤ _; omega⟩ ⟨hok', by show m.length ≤ _; omega⟩) _ (ht.next hb0) (rrows_new w T [⟨A, c, l⟩, ⟨B, c', m⟩] _ rfl g hg (two_rows hr hr'))).mono ?_
  rintro e w1 ⟨rfl, hb1⟩
  exact ⟨by rw [sumR_two], hb0.trans (hb1.mono hb0.size)⟩
theorem neg_two (A B : Option Addr) (c c' d : Nat) (l m : List Cl) (hl : l.length ≤ 100000) (hm : m.length ≤ 100000) (hok : OkCells l) (hok' : OkCells m) (w : World) (ht : Tab w) (hr : RCells w A l) (hr' : RCells w B m) (g : Nat) (hg : g = w.heap.size) (T : TypeId) :
    Calls Tryd.prog 38 #[.slice (some ⟨g, 0, none⟩) 2 d] (w.alloc (.cells #[.slice A l.length c, .slice B m.length c'] T)) fun e w' => e = .returned (.int .i64 ((65536 - sumC 0 (l ++ m)) % 65536)) ∧ Below w.heap.size w w' := by
  have hb0 : Below w.heap.size w (w.alloc (.cells #[.slice A l.length c, .slice B m.length c'] T)) := (Below.refl _ _).alloc (Nat.le_refl _) _
  refine (negated_any _ d [⟨A, c, l⟩, ⟨B, c', m⟩] (by simp) (two_rows ⟨hok, by show l.length ≤ _; omega⟩ ⟨hok', by show m.length ≤ _; omega⟩) _ (ht.next hb0) (rrows_new w T [⟨A, c, l⟩, ⟨B, c', m⟩] _ rfl g hg (two_rows hr hr'))).mono ?_
  rintro e w1 ⟨rfl, hb1⟩
  exact ⟨by rw [sumR_two], hb0.trans (hb1.mono hb0.size)⟩
end Go.Proofs.YtdjbfnhgendacaaDoor

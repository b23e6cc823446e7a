/-
  The walks of lines: of another size; two lines held against each other.
-/
import Derived.Test.YtbndnaohjloanaaDoorLineF
namespace Go.Proofs.YtbndnaohjloanaaDoor

open Go.RowKit

theorem KL.alloc {w W : World} {x y : Array Value} (h : KL w x y W) (o : Obj) : KL w x y (W.alloc o) := ⟨h.1.alloc o, h.2.1.alloc o, h.2.2.alloc h.2.2.size o⟩
theorem Row.far2 {W : World} {g a : Nat} {l : List Cl} (h : Row W g l) (hg : a < g) (x y : Value) : Row ((W.setCell ⟨a, 0, none⟩ x).setCell ⟨a, 1, none⟩ y) g l := Blk.far (Blk.far h (by simp; omega) _) (by simp; omega) _
/-- The size that is asked for, or the plain one. -/
def sizedP (s : Int) : Int := if s = 1 ∨ s = 2 ∨ s = 3 then s else 0
set_option maxRecDepth 100000 in
set_option maxHeartbeats 2000000 in
theorem sized_any (A : Option Addr) (c : Nat) (l : List Cl) (size s : Int) (hl : l.length ≤ 100000) (w : World) (hr : RCells w A l) :
    Calls Tryd.prog 13 #[lineV A l.length c size, .int .i64 s] w fun e w' => ∃ g, w.heap.size ≤ g ∧ e = .returned (lineV (some ⟨g, 0, none⟩) l.length l.length (sizedP s)) ∧ Row w' g l ∧ Below w.heap.size w w' := by
  have HC := Lib.hid (fun W h => copy_any A c l size hl W h)
  have HR := Lib.hid hr
  clear hr hl
  unfold lineV at *
  generalize l.length = n at *
  have HK := Lib.hid (KL.start w #[.slice A n c, .int .i64 size] #[.slice none 0 0, .int .i64 0])
  have HP : Hid (sizedP s = if s = 1 ∨ s = 2 ∨ s = 3 then s else 0) := Lib.hid rfl
  generalize sizedP s = z at *
  have hs : (s = 1 ∧ z = 1) ∨ (s = 2 ∧ z = 2) ∨ (s = 3 ∧ z = 3) ∨ ((s == 1) = false ∧ (s == 2) = false ∧ (s == 3) = false ∧ z = 0) := by
    have h := HP.out
    by_cases h1 : s = 1
    · exact .inl ⟨h1, by rw [h, if_pos (.inl h1), h1]⟩
    · by_cases h2 : s = 2
      · exact .inr (.inl ⟨h2, by rw [h, if_pos (.inr (.inl h2)), h2]⟩)
      · by_cases h3 : s = 3
        · exact .inr (.inr (.inl ⟨h3, by rw [h, if_pos (.inr (.inr h3)), h3]⟩))
        · exact .inr (.inr (.inr ⟨by simpa using h1, by simpa using h2, by simpa using h3, by rw [h, if_neg (by omega)]⟩))
  clear HP
  rcases hs with ⟨rfl, rfl⟩ | ⟨rfl, rfl⟩ | ⟨rfl, rfl⟩ | ⟨h1, h2, h3, rfl⟩
  all_goals
    go_enter Tryd.func13, Tryd.ntmps13
    go_wp2_with fail
    refine (HC.out _ (HR.out.next HK.out.2.2)).mono ?_
    rintro e w1 ⟨g, hg, rfl, hrow, hb1⟩
    have HK1 := Lib.hid (KL.next HK.out hb1)
    have HRow := Lib.hid hrow
    have hgw : w.heap.size + 1 < g := by simp at hg; omega
    clear hrow hb1 hg
    have HE1 := Lib.hid (fun o => KL.res (KL.alloc HK1.out o))
    have c2 := fun o => (HE1.out o).1
    have c3 := fun o => (HE1.out o).2.1
    have f2 := fun o => (HE1.out o).2.2.1
    have f3 := fun o => (HE1.out o).2.2.2
    go_wp2_with fail
    have e0 := fun o x y => (KL.res (KL.store2 (KL.alloc HK1.out o) x y)).1
    have e1 := fun o x y => (KL.res (KL.store2 (KL.alloc HK1.out o) x y)).2.1
    exact bodyPost_ret (v := .agg #[.slice (some ⟨g, 0, none⟩) n n, _]) (by simp [results, Tryd.results13, go_sem, e0, e1]) rfl ⟨g, by omega, rfl, Row.far2 (Blk.alloc HRow.out _) (by omega) _ _, (KL.store2 (KL.alloc HK1.out _) _ _).2.2⟩
end Go.Proofs.YtbndnaohjloanaaDoor

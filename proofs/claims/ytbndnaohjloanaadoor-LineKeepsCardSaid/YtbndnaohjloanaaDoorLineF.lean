/-
  The walks of lines: a new one, one of another size, its width.
-/
import Derived.Test.YtbndnaohjloanaaDoorLineE
namespace Go.Proofs.YtbndnaohjloanaaDoor

open Go.RowKit

/-- What is known of a world where there is the box of what is answered alone. -/
def KR (w : World) (y : Array Value) (w' : World) : Prop := Blk w' w.heap.size 29 y ∧ Below w.heap.size w w'
theorem KR.start (w : World) (y : Array Value) : KR w y (w.alloc (.cells y 29)) := ⟨Blk.new w _ y, (Below.refl _ _).alloc (Nat.le_refl _) _⟩
theorem KR.next {w W w' : World} {y : Array Value} (h : KR w y W) (hb : Below W.heap.size W w') : KR w y w' := ⟨h.1.next hb, h.2.trans (hb.mono h.2.size)⟩
theorem KR.store2 {w W : World} {c d : Value} (h : KR w #[c, d] W) (x y : Value) : KR w #[x, y] ((W.setCell ⟨w.heap.size, 0, none⟩ x).setCell ⟨w.heap.size, 1, none⟩ y) :=
  ⟨(h.1.set_ 0 x).set_ 1 y, (h.2.setCell (by simp) _).setCell (by simp) _⟩
theorem KR.res {w W : World} {x y : Value} (h : KR w #[x, y] W) : W.cell? ⟨w.heap.size, 0, none⟩ = some x ∧ W.cell? ⟨w.heap.size, 1, none⟩ = some y ∧ W.frozen? ⟨w.heap.size, 0, none⟩ = false ∧ W.frozen? ⟨w.heap.size, 1, none⟩ = false :=
  ⟨h.1.cell 0, h.1.cell 1, h.1.frozen 0, h.1.frozen 1⟩

set_option maxRecDepth 100000 in
set_option maxHeartbeats 1000000 in
theorem new_any (cols : Int) (w : World) :
    Calls Tryd.prog 18 #[.int .i64 cols] w fun e w' => ∃ g, w.heap.size ≤ g ∧ e = .returned (lineV (some ⟨g, 0, none⟩) (colsP cols) (colsP cols) 0) ∧ Row w' g (resP [] (colsP cols)) ∧ Below w.heap.size w w' := by
  have HK := Lib.hid (KR.start w #[.slice none 0 0, .int .i64 0])
  have HC := Lib.hid (fun W => resize_any none 0 [] 0 cols W ⟨rfl, fun h => absurd h (by simp)⟩)
  unfold lineV at *
  generalize colsP cols = N at *
  go_enter Tryd.func18, Tryd.ntmps18
  go_wp2_with fail
  refine (HC.out _).mono ?_
  rintro e w1 ⟨g, hg, rfl, hrow, hb1⟩
  have HK1 := Lib.hid (KR.next HK.out hb1)
  have HRow := Lib.hid hrow
  have hgw : w.heap.size < g := by simp at hg; omega
  clear hrow hb1 hg
  obtain ⟨c0, c1, f0, f1⟩ := KR.res HK1.out
  have HK2 := Lib.hid (KR.store2 HK1.out (.slice (some ⟨g, 0, none⟩) N N) (.int .i64 0))
  obtain ⟨e0, e1, _, _⟩ := KR.res HK2.out
  have HR2 : Hid (Row ((w1.setCell ⟨w.heap.size, 0, none⟩ (.slice (some ⟨g, 0, none⟩) N N)).setCell ⟨w.heap.size, 1, none⟩ (.int .i64 0)) g (resP [] N)) := Lib.hid (Blk.far (Blk.far HRow.out (by simp; omega) _) (by simp; omega) _)
  go_wp2_with fail
  exact bodyPost_ret (v := .agg #[.slice (some ⟨g, 0, none⟩) N N, .int .i64 0]) (by simp [results, Tryd.results18, go_sem, e0, e1]) rfl ⟨g, by omega, rfl, HR2.out, HK2.out.2⟩

/-- How many columns a line shows. -/
def widthP (n : Nat) (size : Int) : Int := if size = 0 then n else max (n / 2) (min n 1)
set_option maxRecDepth 100000 in
set_option maxHeartbeats 1000000 in
theorem width_any (A : Option Addr) (n c : Nat) (size : Int) (hn : n ≤ 100000) (w : World) :
    Calls Tryd.prog 19 #[lineV A n c size] w fun e w' => e = .returned (.int .i64 (widthP n size)) ∧ Below w.heap.size w w' := by
  unfold lineV
  by_cases h0 : size = 0
  · subst h0
    have HV : Hid (widthP n 0 = n) := Lib.hid (by simp [widthP])
    generalize widthP n 0 = x at *
    go_enter Tryd.func19, Tryd.ntmps19
    go_wp2_with fail
    go_ret
    exact ⟨ret_int (by rw [HV.out]), (Below.refl _ _).alloc (Nat.le_refl _) _⟩
  · have hd : (size == 0) = false := by simpa using h0
    have HV : Hid (widthP n size = max ((n : Int) / 2) (min (n : Int) 1)) := Lib.hid (by simp [widthP, h0])
    clear h0
    generalize widthP n size = x at *
    go_enter Tryd.func19, Tryd.ntmps19
    go_wp2_with fail
    all_goals
      go_ret
      exact ⟨ret_int (by rw [HV.out]), (Below.refl _ _).alloc (Nat.le_refl _) _⟩

end Go.Proofs.YtbndnaohjloanaaDoor

/-
  The walks that fill a span.
-/
import Derived.Test.YtbndnaohjloanaaDoorLineL
namespace Go.Proofs.YtbndnaohjloanaaDoor

open Go.RowKit

theorem Blk.set2 {W : World} {g : Nat} {t : TypeId} {a b : Value} (h : Blk W g t #[a, b]) (x y : Value) : Blk ((W.setCell ⟨g, 0, none⟩ x).setCell ⟨g, 1, none⟩ y) g t #[x, y] := (h.set_ 0 x).set_ 1 y

set_option maxRecDepth 100000 in
set_option maxHeartbeats 4000000 in
theorem fill_any (x : Cl) (A : Option Addr) (c : Nat) (l : List Cl) (size f t : Int) (hl : l.length ≤ 100000) (w : World) (hr : RCells w A l) :
    Calls Tryd.prog 20 #[lineV A l.length c size, .int .i64 f, .int .i64 t, x.val] w fun e w' => ∃ g, w.heap.size ≤ g ∧ e = .returned (lineV (some ⟨g, 0, none⟩) l.length l.length size) ∧ Row w' g (eachP (fun _ => x) l (loP f) (hiP l.length t - loP f)) ∧ Below w.heap.size w w' := by
  have hmf : ∀ (fn : Fn) (first cap : Array Value) (w : World), (Instr.makeFunc fn first cap).run Tryd.prog w = .ok (.func fn first cap) w := fun _ _ _ _ => rfl
  have HE := Lib.hid (fun W h => each_any 26 x.val (fun _ => x) (fun args W => Tryd.call26 args W) A c l size f t hl W h (fun y _ V _ => cover_any x y V))
  have HR := Lib.hid hr
  clear hr
  obtain ⟨xg, xr, xk⟩ := x
  unfold lineV Cl.val at *
  generalize l.length = n at *
  generalize eachP _ l (loP f) (hiP n t - loP f) = L at *
  have hb0 : Below w.heap.size w (((w.alloc (.cells #[.slice A n c, .int .i64 size] 29)).alloc (.cells #[.int .i32 xg, .int .u8 xr, .bool xk] 45)).alloc (.cells #[.slice none 0 0, .int .i64 0] 29)) := (((Below.refl _ _).alloc (Nat.le_refl _) _).alloc (by simp) _).alloc (by simp; omega) _
  have HB0 := Lib.hid hb0
  have HBr := Lib.hid (Blk.new ((w.alloc (.cells #[.slice A n c, .int .i64 size] 29)).alloc (.cells #[.int .i32 xg, .int .u8 xr, .bool xk] 45)) 29 #[.slice none 0 0, .int .i64 0])
  clear hb0
  go_enter Tryd.func20, Tryd.ntmps20
  go_wp2_with fail
  refine (HE.out _ (HR.out.next HB0.out)).mono ?_
  rintro e w1 ⟨g, hg, rfl, hrow, hb1⟩
  have hg3 : w.heap.size + 3 ≤ g := by simp at hg; omega
  have HB1 : Hid (Blk w1 (w.heap.size + 1 + 1) 29 #[.slice none 0 0, .int .i64 0]) := Lib.hid (by have h := Blk.next HBr.out hb1; simpa using h)
  have HBl := Lib.hid (HB0.out.trans (hb1.mono (by simp; omega)))
  have HRow := Lib.hid hrow
  clear hg hrow hb1
  have c2 : w1.cell? ⟨w.heap.size + 1 + 1, 0, none⟩ = some (.slice none 0 0) := HB1.out.cell 0
  have c3 : w1.cell? ⟨w.heap.size + 1 + 1, 1, none⟩ = some (.int .i64 0) := HB1.out.cell 1
  have f2 := HB1.out.frozen 0
  have f3 := HB1.out.frozen 1
  have HS := Lib.hid (Blk.set2 HB1.out (.slice (some ⟨g, 0, none⟩) n n) (.int .i64 size))
  have e0 := HS.out.cell 0
  have e1 := HS.out.cell 1
  simp only [List.getElem?_toArray, List.getElem?_cons_zero, List.getElem?_cons_succ] at e0 e1
  go_wp2_with fail
  exact bodyPost_ret (v := .agg #[.slice (some ⟨g, 0, none⟩) n n, .int .i64 size]) (by simp [results, Tryd.results20, go_sem, e0, e1]) rfl ⟨g, by omega, rfl, Row.far2 HRow.out (by omega) _ _, (HBl.out.setCell (by simp; omega) _).setCell (by simp; omega) _⟩
end Go.Proofs.YtbndnaohjloanaaDoor

/-
  Boxes, places and numbers that came in.
-/
import Derived.Test.YtdddpdfljjfaoaaFrameE
import Derived.Test.YtdddpdfljjfaoaaBoxD
import Derived.Deep.Fields
namespace Go.Proofs.Ytdddpdfljjfaoaa
open Go.RowKit Go.ChangeShapes Go.WideShapes Go.Deep

theorem cellsBox : Try.prog.cellsOf 23 = 4 := by kernel_rfl
theorem cellsPos : Try.prog.cellsOf 25 = 2 := by kernel_rfl
open Go.Joins in
theorem box_in {H : Type} {enc : TypeId × Value → H} {W : World} {base : Nat} {v : Value} {d : DataW H} {p : List MemPlace} (hv : Value.okWide Try.prog W .any base 23 v)
    (h : DataW.Trod enc Try.prog W 0 (fun _ => true) true 23 v d p) : ∃ t l b r : Int, v = bV t l b r := by
  obtain ⟨c0, c1, c2, c3, y0, y1, y2, y3, m, rfl, _, _, h0, h1, h2, h3⟩ := open_agg4 Try.underlying23 (by kernel_rfl) cellsBox hv h
  obtain ⟨g0, e0, _⟩ := DataW.trod_int Try.underlying3 h0
  obtain ⟨g1, e1, _⟩ := DataW.trod_int Try.underlying3 h1
  obtain ⟨g2, e2, _⟩ := DataW.trod_int Try.underlying3 h2
  obtain ⟨g3, e3, _⟩ := DataW.trod_int Try.underlying3 h3
  simp at e0 e1 e2 e3
  subst e0 e1 e2 e3
  exact ⟨g0, g1, g2, g3, rfl⟩
open Go.Joins in
theorem pos_in {H : Type} {enc : TypeId × Value → H} {W : World} {base : Nat} {v : Value} {d : DataW H} {p : List MemPlace} (hv : Value.okWide Try.prog W .any base 25 v)
    (h : DataW.Trod enc Try.prog W 0 (fun _ => true) true 25 v d p) : ∃ r c : Int, v = pV r c := by
  obtain ⟨c0, c1, y0, y1, m, rfl, _, _, h0, h1⟩ := open_agg2 Try.underlying25 (by kernel_rfl) cellsPos hv h
  obtain ⟨g0, e0, _⟩ := DataW.trod_int Try.underlying3 h0
  obtain ⟨g1, e1, _⟩ := DataW.trod_int Try.underlying3 h1
  simp at e0 e1
  subst e0 e1
  exact ⟨g0, g1, rfl⟩
end Go.Proofs.Ytdddpdfljjfaoaa

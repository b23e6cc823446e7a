/-
  A line that came in; a span that came in.
-/
import Derived.Test.YtbndnaohjloanaaDoorFrameC
import Derived.Test.YtbndnaohjloanaaDoorLineX
namespace Go.Proofs.YtbndnaohjloanaaDoor

open Go.RowKit Go.ChangeShapes Go.WideShapes Go.Deep

theorem cellsLine : Tryd.prog.cellsOf 29 = 2 := by kernel_rfl
theorem cellsSpan : Tryd.prog.cellsOf 24 = 3 := by kernel_rfl
set_option maxRecDepth 100000 in
open Go.Joins in
theorem line_in2 {H : Type} {enc : TypeId × Value → H} {W : World} {base : Nat} {v : Value} {d : DataW H} {p : List MemPlace} (hv : Value.okWide Tryd.prog W .any base 29 v)
    (h : DataW.Trod enc Tryd.prog W 0 (fun _ => true) true 29 v d p) :
    ∃ (A : Option Addr) (c : Nat) (l : List Cl) (size : Int), v = lineV A l.length c size ∧ l.length ≤ maxLen ∧ l.length ≤ c ∧ OkCells l ∧ RCells W A l := by
  obtain ⟨c0, c1, y0, y1, m, rfl, _, _, h0, h1⟩ := open_agg2 Tryd.underlying29 (by kernel_rfl) cellsLine hv h
  obtain ⟨g1, e1, _⟩ := DataW.trod_int Tryd.underlying3 h1
  simp at e1
  subst e1
  have hs : ∃ b len cap, c0 = .slice b len cap := by
    rcases open_slice_fields Tryd.underlying22 Tryd.underlying45 (by kernel_rfl) cellsCell h0 with ⟨hcs, _⟩ | ⟨a, len', cap', _, _, _, hcs, _⟩
    · injection hcs with e _
      exact ⟨_, _, _, e⟩
    · injection hcs with e _
      exact ⟨_, _, _, e⟩
  obtain ⟨b, len, cap, rfl⟩ := hs
  obtain ⟨l, hlen, hm, hc, hok, hri⟩ := cells_in (d := y0.1) (p := y0.2) ⟨m, h0⟩
  subst hlen
  exact ⟨b, cap, l, g1, rfl, hm, hc, hok, hri⟩
theorem line_in {H : Type} {enc : TypeId × Value → H} {W : World} {base : Nat} {v : Value} {d : DataW H} {p : List MemPlace} (hv : Value.okWide Tryd.prog W .any base 29 v)
    (h : DataW.Trod enc Tryd.prog W 0 (fun _ => true) true 29 v d p) :
    ∃ (A : Option Addr) (c : Nat) (l : List Cl) (size : Int), v = lineV A l.length c size ∧ l.length ≤ maxLen ∧ l.length ≤ c ∧ RCells W A l := by
  obtain ⟨A, c, l, z, h1, h2, h3, _, h4⟩ := line_in2 hv h
  exact ⟨A, c, l, z, h1, h2, h3, h4⟩
open Go.Joins in
theorem span_in {H : Type} {enc : TypeId × Value → H} {W : World} {base : Nat} {v : Value} {d : DataW H} {p : List MemPlace} (hv : Value.okWide Tryd.prog W .any base 24 v)
    (h : DataW.Trod enc Tryd.prog W 0 (fun _ => true) true 24 v d p) : ∃ f t n : Int, v = .agg #[.int .i64 f, .int .i64 t, .int .i64 n] := by
  obtain ⟨c0, c1, c2, y0, y1, y2, m, rfl, _, _, h0, h1, h2⟩ := open_agg3 Tryd.underlying24 (by kernel_rfl) cellsSpan hv h
  obtain ⟨g0, e0, _⟩ := DataW.trod_int Tryd.underlying3 h0
  obtain ⟨g1, e1, _⟩ := DataW.trod_int Tryd.underlying3 h1
  obtain ⟨g2, e2, _⟩ := DataW.trod_int Tryd.underlying3 h2
  simp at e0 e1 e2
  subst e0 e1 e2
  exact ⟨g0, g1, g2, rfl⟩
end Go.Proofs.YtbndnaohjloanaaDoor

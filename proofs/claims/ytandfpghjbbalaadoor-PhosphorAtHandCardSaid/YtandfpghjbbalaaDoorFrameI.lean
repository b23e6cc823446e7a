/-
  A state of sets that came in, opened.
-/
import Derived.Test.YtandfpghjbbalaaDoorFrameW
namespace Go.Proofs.YtandfpghjbbalaaDoor
open Go.RowKit Go.ChangeShapes Go.WideShapes

theorem cellsState : Tryd.prog.cellsOf 35 = 7 := by kernel_rfl
theorem cellsFour : Tryd.prog.cellsOf 33 = 4 := by kernel_rfl
theorem cellsIntI : Tryd.prog.cellsOf 3 = 1 := by kernel_rfl
set_option maxRecDepth 100000 in
theorem iso_in {H : Type} {enc : TypeId × Value → H} {W : World} {base : Nat} {v : Value} {d : DataW H} {p : List MemPlace} (hv : Value.okWide Tryd.prog W .any base 35 v)
    (h : DataW.Trod enc Tryd.prog W 0 (fun _ => true) true 35 v d p) : ∃ a b c d l r s : Int, v = .agg #[.int .i64 a, .int .i64 b, .int .i64 c, .int .i64 d, .int .i64 l, .int .i64 r, .int .i64 s] := by
  obtain ⟨⟨cs⟩, rfl, hsz⟩ := okWide_struct Tryd.underlying35 hv
  rw [cellsState] at hsz
  obtain ⟨fuel, hf⟩ := h
  obtain ⟨xs, n, _, hx, hl, hxl, hfi⟩ := DataW.trod_struct Tryd.underlying35 hf
  have h0 := hfi 0 _ rfl
  have h1 := hfi 1 _ rfl
  have h2 := hfi 2 _ rfl
  have h3 := hfi 3 _ rfl
  match cs, hsz, xs, hxl with
  | [c0, c1, c2, c3, c4, c5, c6], _, [y0, y1, y2, y3], _ =>
    have k0 : DataW.trod enc Tryd.prog W 0 (fun _ => true) true n 33 [c0, c1, c2, c3] = some y0 := by simpa [cellsFour, Value.cells] using h0
    obtain ⟨z1, e1, _⟩ := DataW.trod_int Tryd.underlying3 (show DataW.trod enc Tryd.prog W 0 (fun _ => true) true n 3 [c4] = some y1 from by simpa [cellsIntI, Value.cells] using h1)
    obtain ⟨z2, e2, _⟩ := DataW.trod_int Tryd.underlying3 (show DataW.trod enc Tryd.prog W 0 (fun _ => true) true n 3 [c5] = some y2 from by simpa [cellsIntI, Value.cells] using h2)
    obtain ⟨z3, e3, _⟩ := DataW.trod_int Tryd.underlying3 (show DataW.trod enc Tryd.prog W 0 (fun _ => true) true n 3 [c6] = some y3 from by simpa [cellsIntI, Value.cells] using h3)
    obtain ⟨ys, m, _, hy, hyl, hyn, hel⟩ := DataW.trod_array Tryd.underlying33 k0
    simp only [cellsIntI] at hel
    have g0 := hel 0 (by decide)
    have g1 := hel 1 (by decide)
    have g2 := hel 2 (by decide)
    have g3 := hel 3 (by decide)
    match ys, hyn with
    | [u0, u1, u2, u3], _ =>
      obtain ⟨a0, b0, _⟩ := DataW.trod_int Tryd.underlying3 (show DataW.trod enc Tryd.prog W 0 (fun _ => true) true m 3 [c0] = some u0 from by simpa using g0)
      obtain ⟨a1, b1, _⟩ := DataW.trod_int Tryd.underlying3 (show DataW.trod enc Tryd.prog W 0 (fun _ => true) true m 3 [c1] = some u1 from by simpa using g1)
      obtain ⟨a2, b2, _⟩ := DataW.trod_int Tryd.underlying3 (show DataW.trod enc Tryd.prog W 0 (fun _ => true) true m 3 [c2] = some u2 from by simpa using g2)
      obtain ⟨a3, b3, _⟩ := DataW.trod_int Tryd.underlying3 (show DataW.trod enc Tryd.prog W 0 (fun _ => true) true m 3 [c3] = some u3 from by simpa using g3)
      simp at e1 e2 e3 b0 b1 b2 b3
      subst e1 e2 e3 b0 b1 b2 b3
      exact ⟨_, _, _, _, _, _, _, rfl⟩
end Go.Proofs.YtandfpghjbbalaaDoor

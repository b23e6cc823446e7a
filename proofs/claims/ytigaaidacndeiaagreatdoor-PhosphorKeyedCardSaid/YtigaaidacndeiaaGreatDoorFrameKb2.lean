/-
  A board, a stroke and bytes that came in, opened.
-/
import Derived.Test.YtigaaidacndeiaaGreatDoorFrameP
import Derived.Test.YtigaaidacndeiaaGreatDoorKeyH
import Derived.Deep.Slices
import Derived.Deep.Fields
import Derived.ChangeSame
import Derived.Lib.SmallJoins
namespace Go.Proofs.YtigaaidacndeiaaGreatDoor
open Go.RowKit Go.ChangeShapes Go.WideShapes Go.Deep

theorem cellsU8K : Tryz.prog.cellsOf 5 = 1 := by kernel_rfl
theorem cellsBoolK : Tryz.prog.cellsOf 4 = 1 := by kernel_rfl
theorem cellsIntK : Tryz.prog.cellsOf 3 = 1 := by kernel_rfl
theorem cellsStrK : Tryz.prog.cellsOf 9 = 1 := by kernel_rfl
theorem cellsModK : Tryz.prog.cellsOf 49 = 1 := by kernel_rfl
theorem cellsBoardK : Tryz.prog.cellsOf 53 = 4 := by kernel_rfl
theorem cellsEventK : Tryz.prog.cellsOf 38 = 4 := by kernel_rfl
set_option maxRecDepth 100000 in
theorem board_in {H : Type} {enc : TypeId × Value → H} {W : World} {base : Nat} {v : Value} {d : DataW H} {p : List MemPlace} (hv : Value.okWide Tryz.prog W .any base 53 v)
    (h : DataW.Trod enc Tryz.prog W 0 (fun _ => true) true 53 v d p) : ∃ (m : Nat) (lv : Int) (eg : Bool) (s : ByteArray), m < 4294967296 ∧ v = .agg #[.int .u32 (m : Int), .int .i64 lv, .bool eg, .string s] := by
  obtain ⟨⟨cs⟩, rfl, hsz⟩ := okWide_struct Tryz.underlying53 hv
  rw [cellsBoardK] at hsz
  obtain ⟨fuel, hf⟩ := h
  obtain ⟨xs, n, _, hx, hl, hxl, hfi⟩ := DataW.trod_struct Tryz.underlying53 hf
  have h0 := hfi 0 _ rfl
  have h1 := hfi 1 _ rfl
  have h2 := hfi 2 _ rfl
  have h3 := hfi 3 _ rfl
  match cs, hsz, xs, hxl with
  | [c0, c1, c2, c3], _, [y0, y1, y2, y3], _ =>
    obtain ⟨z0, e0, _, w0⟩ := DataW.trod_int Tryz.underlying49 (show DataW.trod enc Tryz.prog W 0 (fun _ => true) true n 49 [c0] = some y0 from by simpa [cellsModK, cellsIntK, cellsBoolK, cellsStrK, Value.cells] using h0)
    obtain ⟨z1, e1, _⟩ := DataW.trod_int Tryz.underlying3 (show DataW.trod enc Tryz.prog W 0 (fun _ => true) true n 3 [c1] = some y1 from by simpa [cellsModK, cellsIntK, cellsBoolK, cellsStrK, Value.cells] using h1)
    obtain ⟨z2, e2, _⟩ := DataW.trod_bool Tryz.underlying4 (show DataW.trod enc Tryz.prog W 0 (fun _ => true) true n 4 [c2] = some y2 from by simpa [cellsModK, cellsIntK, cellsBoolK, cellsStrK, Value.cells] using h2)
    obtain ⟨z3, e3, _⟩ := DataW.trod_string Tryz.underlying9 (show DataW.trod enc Tryz.prog W 0 (fun _ => true) true n 9 [c3] = some y3 from by simpa [cellsModK, cellsIntK, cellsBoolK, cellsStrK, Value.cells] using h3)
    simp at e0 e1 e2 e3
    subst e0 e1 e2 e3
    have hb := bounds_u32 w0
    refine ⟨z0.toNat, z1, z2, z3, by omega, ?_⟩
    rw [show ((z0.toNat : Nat) : Int) = z0 from by omega]
set_option maxRecDepth 100000 in
theorem event_in {H : Type} {enc : TypeId × Value → H} {W : World} {base : Nat} {v : Value} {d : DataW H} {p : List MemPlace} (hv : Value.okWide Tryz.prog W .any base 38 v)
    (h : DataW.Trod enc Tryz.prog W 0 (fun _ => true) true 38 v d p) : ∃ (k : Int) (c : Nat) (sh ct : Bool), c < 256 ∧ v = .agg #[.int .i64 k, .int .u8 (c : Int), .bool sh, .bool ct] := by
  obtain ⟨⟨cs⟩, rfl, hsz⟩ := okWide_struct Tryz.underlying38 hv
  rw [cellsEventK] at hsz
  obtain ⟨fuel, hf⟩ := h
  obtain ⟨xs, n, _, hx, hl, hxl, hfi⟩ := DataW.trod_struct Tryz.underlying38 hf
  have h0 := hfi 0 _ rfl
  have h1 := hfi 1 _ rfl
  have h2 := hfi 2 _ rfl
  have h3 := hfi 3 _ rfl
  match cs, hsz, xs, hxl with
  | [c0, c1, c2, c3], _, [y0, y1, y2, y3], _ =>
    obtain ⟨z0, e0, _⟩ := DataW.trod_int Tryz.underlying3 (show DataW.trod enc Tryz.prog W 0 (fun _ => true) true n 3 [c0] = some y0 from by simpa [cellsU8K, cellsIntK, cellsBoolK, Value.cells] using h0)
    obtain ⟨z1, e1, _, w1⟩ := DataW.trod_int Tryz.underlying5 (show DataW.trod enc Tryz.prog W 0 (fun _ => true) true n 5 [c1] = some y1 from by simpa [cellsU8K, cellsIntK, cellsBoolK, Value.cells] using h1)
    obtain ⟨z2, e2, _⟩ := DataW.trod_bool Tryz.underlying4 (show DataW.trod enc Tryz.prog W 0 (fun _ => true) true n 4 [c2] = some y2 from by simpa [cellsU8K, cellsIntK, cellsBoolK, Value.cells] using h2)
    obtain ⟨z3, e3, _⟩ := DataW.trod_bool Tryz.underlying4 (show DataW.trod enc Tryz.prog W 0 (fun _ => true) true n 4 [c3] = some y3 from by simpa [cellsU8K, cellsIntK, cellsBoolK, Value.cells] using h3)
    simp at e0 e1 e2 e3
    subst e0 e1 e2 e3
    have hb := bounds_u8 w1
    refine ⟨z0, z1.toNat, z2, z3, by omega, ?_⟩
    rw [show ((z1.toNat : Nat) : Int) = z1 from by omega]
end Go.Proofs.YtigaaidacndeiaaGreatDoor

/-
  What every statement's last step shares: the row's list gives the table's cells; a call that leaves old memory alone meets the row's end.
-/
import Derived.Test.YtbndnaohjloanaaDoorRows
import Derived.Test.YtbndnaohjloanaaDoorFrameB
import Derived.Test.YtbndnaohjloanaaDoorKit2
import Derived.Test.YtbndnaohjloanaaDoorKit
import Derived.ProofKit
import Derived.OpenShut
import Derived.Deep.DeepHandedRow
import Derived.Lib.LaidTab
import Derived.LaidMore
import Derived.Deep.Slices
import Derived.Deep.Fields
import Derived.ChangeSame
import Derived.Lib.SmallJoins
namespace Go.Proofs.YtbndnaohjloanaaDoor

open Go.RowKit Go.ChangeShapes Go.WideShapes

theorem gTab : Tryd.prog.globalNamed "phosphor/rend.parts" = some 0 := by kernel_rfl
theorem tTab : (Tryd.prog.globals[0]?).map (·.type) = some 62 := by kernel_rfl
theorem cellsPart : Tryd.prog.cellsOf 61 = 5 := by kernel_rfl
theorem cellsTab : Tryd.prog.cellsOf 62 = 25 := by kernel_rfl
theorem cellsU8 : Tryd.prog.cellsOf 5 = 1 := by kernel_rfl
theorem cellsRend : Tryd.prog.cellsOf 43 = 1 := by kernel_rfl

section

variable {H : Type} {enc : TypeId × Value → H} {w : World} {base : Nat} {spare : Nat → Bool} {held : Bool}

theorem lit_eq {k : IntKind} {t : TypeId} {fuel : Nat} {c : Value} {y : DataW H × List MemPlace} {n : Int} (ht : Tryd.prog.underlying t = some (.int k)) (h : DataW.trod enc Tryd.prog w base spare held fuel t [c] = some y) (hy : y.1 = .lit (.int k n)) : c = .int k n := by
  obtain ⟨m, e1, e2, _⟩ := DataW.trod_int ht h
  rw [e2] at hy
  have hm : m = n := by simpa using hy
  subst hm
  simpa using e1
theorem part_cells {fuel : Nat} {cs : List Value} {x : DataW H × List MemPlace} {a b c d e : Int} (h : DataW.trod enc Tryd.prog w base spare held fuel 61 cs = some x)
    (hx : x.1 = .agg [.lit (.int .u8 a), .lit (.int .i64 b), .lit (.int .i64 c), .lit (.int .u8 d), .lit (.int .i64 e)]) : cs = [.int .u8 a, .int .i64 b, .int .i64 c, .int .u8 d, .int .i64 e] := by
  obtain ⟨xs, n, _, rfl, hl, hxl, hf⟩ := DataW.trod_struct Tryd.underlying61 h
  rw [cellsPart] at hl
  have h0 := hf 0 _ rfl
  have h1 := hf 1 _ rfl
  have h2 := hf 2 _ rfl
  have h3 := hf 3 _ rfl
  have h4 := hf 4 _ rfl
  match cs, hl, xs, hxl with
  | [c0, c1, c2, c3, c4], _, [y0, y1, y2, y3, y4], _ =>
    simp only [List.map_cons, List.map_nil, DataW.agg.injEq, List.cons.injEq, and_true] at hx
    obtain ⟨e0, e1, e2, e3, e4⟩ := hx
    have r0 : c0 = .int .u8 a := lit_eq (enc := enc) Tryd.underlying43 (by simpa [cellsRend] using h0) e0
    have r1 : c1 = .int .i64 b := lit_eq (enc := enc) Tryd.underlying3 (by simpa [cellsInt] using h1) e1
    have r2 : c2 = .int .i64 c := lit_eq (enc := enc) Tryd.underlying3 (by simpa [cellsInt] using h2) e2
    have r3 : c3 = .int .u8 d := lit_eq (enc := enc) Tryd.underlying5 (by simpa [cellsU8] using h3) e3
    have r4 : c4 = .int .i64 e := lit_eq (enc := enc) Tryd.underlying3 (by simpa [cellsInt] using h4) e4
    rw [r0, r1, r2, r3, r4]
end

/-- What the row's list gives. -/
theorem tab_of {W : World} (h : laidMetH Tryd.prog [("phosphor/rend.parts", Rows.laid_phosphor_rend_parts)] W) : Tab W := by
  rw [MakeChecks.laidMetH_plain _ _ _ (by kernel_rfl)] at h
  obtain ⟨ps, ⟨g0, t0, cs0, f0, p0, q0, hg0, ht0, hv0, hd0, _, _⟩, _, _⟩ := h
  obtain rfl := Option.some.inj (gTab.symm.trans hg0)
  obtain rfl := Option.some.inj (tTab.symm.trans ht0)
  obtain ⟨xs, m, _, hx, hlen, hn, hel⟩ := DataW.trod_array Tryd.underlying62 hd0
  rw [cellsTab] at hlen
  simp only [cellsPart] at hel
  have i0 := hel 0 (by decide)
  have i1 := hel 1 (by decide)
  have i2 := hel 2 (by decide)
  have i3 := hel 3 (by decide)
  have i4 := hel 4 (by decide)
  have hcs : cs0.toList = tabCells := by
    match xs, hn with
    | [y0, y1, y2, y3, y4], _ =>
      simp only [Prod.mk.injEq, Rows.laid_phosphor_rend_parts, DataW.agg.injEq, List.map_cons, List.map_nil, List.cons.injEq, and_true] at hx
      obtain ⟨⟨e0, e1, e2, e3, e4⟩, _⟩ := hx
      have p0 := part_cells i0 e0.symm
      have p1 := part_cells i1 e1.symm
      have p2 := part_cells i2 e2.symm
      have p3 := part_cells i3 e3.symm
      have p4 := part_cells i4 e4.symm
      have key : ∀ l : List Value, l.length = 25 → l = (l.drop (0 * 5)).take 5 ++ ((l.drop (1 * 5)).take 5 ++ ((l.drop (2 * 5)).take 5 ++ ((l.drop (3 * 5)).take 5 ++ (l.drop (4 * 5)).take 5))) := by
        intro l hl
        match l, hl with
        | [_, _, _, _, _, _, _, _, _, _, _, _, _, _, _, _, _, _, _, _, _, _, _, _, _], _ => rfl
      rw [key _ hlen, p0, p1, p2, p3, p4]
      rfl
  refine ⟨?_, fun j v hj => ?_⟩
  · have hc := World.var?_cell hg0 hv0 0
    have e : cs0[0]? = some (.int .u8 1) := by
      rw [← Array.getElem?_toList, hcs]; rfl
    rw [e] at hc
    rcases Nat.eq_zero_or_pos W.heap.size with h0 | h0
    · exfalso
      have : W.heap[0]? = none := Array.getElem?_eq_none (by omega)
      simp [World.cell?, this] at hc
    · exact h0
  · have hc := World.var?_cell hg0 hv0 j
    rw [hc, ← Array.getElem?_toList, hcs]
    exact hj

/-- A world for the witness: the settled one, the table holding what its initialiser lays. -/
noncomputable def laidWorld (os : Os) : World :=
  { World.holding Tryd.prog os ⟨#[], #[], []⟩ with heap := (World.holding Tryd.prog os ⟨#[], #[], []⟩).heap.modify 0 fun
      | .cells _ t frozen => .cells tabCells.toArray t frozen
      | o => o }

end Go.Proofs.YtbndnaohjloanaaDoor

/-
  The table of the modes: what the row's list gives, and a world that holds it.
-/
import Derived.Test.YtbbimecnobnbeaaDoorFrameG
import Derived.Test.YtbbimecnobnbeaaDoorModA
import Derived.LaidSub
namespace Go.Proofs.YtbbimecnobnbeaaDoor
open Go.RowKit Go.ChangeShapes Go.WideShapes

theorem gMods : Tryd.prog.globalNamed "phosphor/mode.table" = some 0 := by kernel_rfl
theorem tMods : (Tryd.prog.globals[0]?).map (·.type) = some 48 := by kernel_rfl
theorem cellsFact : Tryd.prog.cellsOf 47 = 4 := by kernel_rfl
theorem cellsMods : Tryd.prog.cellsOf 48 = 68 := by kernel_rfl
theorem cellsBool : Tryd.prog.cellsOf 4 = 1 := by kernel_rfl
theorem cellsI64 : Tryd.prog.cellsOf 3 = 1 := by kernel_rfl
def modD {H : Type} (k : Nat) : DataW H := .agg [.lit (.bool (decP k)), .lit (.int .i64 (numP k)), .lit (.int .i64 (frmP k)), .lit (.bool (begP k))]
def factL (k : Nat) : List Value := [.bool (decP k), .int .i64 (numP k), .int .i64 (frmP k), .bool (begP k)]
def modDs {H : Type} : List (DataW H) := (List.range 17).map modD
theorem laid_mods {H : Type} : (Rows.laid_phosphor_mode_table : DataW H) = .agg modDs := rfl
section
variable {H : Type} {enc : TypeId × Value → H} {w : World} {base : Nat} {spare : Nat → Bool} {held : Bool}
set_option maxRecDepth 100000 in
theorem face_of {fuel : Nat} {cs : List Value} {x : DataW H × List MemPlace} {k : Nat} (h : DataW.trod enc Tryd.prog w base spare held fuel 47 cs = some x) (hx : x.1 = modD k) : cs = factL k := by
  obtain ⟨xs, n, _, rfl, hl, hxl, hf⟩ := DataW.trod_struct Tryd.underlying47 h
  rw [cellsFact] at hl
  have h0 := hf 0 _ rfl
  have h1 := hf 1 _ rfl
  have h2 := hf 2 _ rfl
  have h3 := hf 3 _ rfl
  match cs, hl, xs, hxl with
  | [c0, c1, c2, c3], _, [y0, y1, y2, y3], _ =>
    simp only [modD, List.map_cons, List.map_nil, DataW.agg.injEq, List.cons.injEq, and_true] at hx
    obtain ⟨e0, e1, e2, e3⟩ := hx
    obtain ⟨b0, q0, r0⟩ := DataW.trod_bool Tryd.underlying4 (by simpa [cellsBool] using h0)
    obtain ⟨z1, q1, r1, _⟩ := DataW.trod_int Tryd.underlying3 (by simpa [cellsI64] using h1)
    obtain ⟨z2, q2, r2, _⟩ := DataW.trod_int Tryd.underlying3 (by simpa [cellsI64] using h2)
    obtain ⟨b3, q3, r3⟩ := DataW.trod_bool Tryd.underlying4 (by simpa [cellsBool] using h3)
    rw [r0] at e0
    rw [r1] at e1
    rw [r2] at e2
    rw [r3] at e3
    have f0 : b0 = decP k := by simpa using e0
    have f1 : z1 = numP k := by simpa using e1
    have f2 : z2 = frmP k := by simpa using e2
    have f3 : b3 = begP k := by simpa using e3
    subst f0 f1 f2 f3
    have g0 : c0 = .bool (decP k) := by simpa using q0
    have g1 : c1 = .int .i64 (numP k) := by simpa using q1
    have g2 : c2 = .int .i64 (frmP k) := by simpa using q2
    have g3 : c3 = .bool (begP k) := by simpa using q3
    rw [g0, g1, g2, g3]
    rfl
set_option maxRecDepth 100000 in
theorem mods_cells {fuel : Nat} {cs : List Value} {p : List MemPlace} (h : DataW.trod enc Tryd.prog w base spare held fuel 48 cs = some (Rows.laid_phosphor_mode_table, p)) : cs = modCells := by
  obtain ⟨xs, m, _, hx, hlen, hn, hel⟩ := DataW.trod_array Tryd.underlying48 h
  rw [cellsMods] at hlen
  simp only [cellsFact] at hel
  rw [laid_mods] at hx
  have hmap : xs.map (·.1) = modDs := by
    have := congrArg Prod.fst hx
    simpa using this.symm
  have key : ∀ k, k < 17 → (cs.drop (k * 4)).take 4 = factL k := by
    intro k hk
    have hk' : k < xs.length := by omega
    have e := hel k hk
    rw [List.getElem?_eq_getElem hk'] at e
    refine face_of e ?_
    have := congrArg (fun l => l[k]?) hmap
    simp only [List.getElem?_map, List.getElem?_eq_getElem hk', Option.map_some, modDs, List.getElem?_range hk] at this
    exact Option.some.inj this
  apply List.ext_getElem?
  intro j
  by_cases hj : j < 68
  · have e1 := key (j / 4) (by omega)
    have e2 := congrArg (fun l => l[j % 4]?) e1
    simp only [List.getElem?_take, List.getElem?_drop, if_pos (Nat.mod_lt j (by decide : 0 < 4))] at e2
    rw [show j / 4 * 4 + j % 4 = j from by omega] at e2
    rw [e2]
    obtain ⟨a, b, c, d⟩ := mod_cells (j / 4) (by omega)
    have hr : j % 4 = 0 ∨ j % 4 = 1 ∨ j % 4 = 2 ∨ j % 4 = 3 := by omega
    rcases hr with r | r | r | r
    · rw [r, show j = j / 4 * 4 from by omega, show j / 4 * 4 / 4 = j / 4 from by omega, a]; rfl
    · rw [r, show j = j / 4 * 4 + 1 from by omega, show (j / 4 * 4 + 1) / 4 = j / 4 from by omega, b]; rfl
    · rw [r, show j = j / 4 * 4 + 2 from by omega, show (j / 4 * 4 + 2) / 4 = j / 4 from by omega, c]; rfl
    · rw [r, show j = j / 4 * 4 + 3 from by omega, show (j / 4 * 4 + 3) / 4 = j / 4 from by omega, d]; rfl
  · rw [List.getElem?_eq_none (by omega), List.getElem?_eq_none (by show 68 ≤ j; omega)]
end
theorem mods_at {W : World} {t0 : TypeId} {cs0 : Array Value} (hg0 : Tryd.prog.globalNamed "phosphor/mode.table" = some 0) (hv0 : W.var? Tryd.prog "phosphor/mode.table" = some cs0) (hcs : cs0.toList = modCells) (_ : t0 = t0) : Mods W := by
  refine ⟨?_, fun j v hj => ?_⟩
  · have hc := World.var?_cell hg0 hv0 0
    have e : cs0[0]? = some (.bool false) := by
      rw [← Array.getElem?_toList, hcs]; rfl
    rw [e] at hc
    rcases Nat.eq_zero_or_pos W.heap.size with h0 | h0
    · exfalso
      have : W.heap[0]? = none := Array.getElem?_eq_none (by omega)
      simp [World.cell?, this] at hc
    · exact h0
  · have hc := World.var?_cell hg0 hv0 j
    rw [hc, ← Array.getElem?_toList, hcs]
    exact hj
/-- What the row's list gives. -/
theorem mods_of {W : World} {ls : List (String × DataW Unit)} (hp : ls.filter (fun x => x.1 == "phosphor/mode.table") = [("phosphor/mode.table", Rows.laid_phosphor_mode_table)]) (h : laidMet Tryd.prog ls W) : Mods W := by
  have h2 := h.filter (fun x => x.1 == "phosphor/mode.table")
  rw [hp] at h2
  obtain ⟨ps, ⟨g0, t0, cs0, f0, p0, q0, hg0, ht0, hv0, hd0, _, _⟩, _, _⟩ := h2
  obtain rfl := Option.some.inj (gMods.symm.trans hg0)
  obtain rfl := Option.some.inj (tMods.symm.trans ht0)
  exact mods_at (t0 := 0) gMods hv0 (mods_cells hd0) rfl
abbrev laidA : List (String × DataW Unit) := [("phosphor/mode.table", Rows.laid_phosphor_mode_table)]
theorem modsA {W : World} (h : laidMetH Tryd.prog laidA W) : Mods W := by
  rw [MakeChecks.laidMetH_plain _ _ _ (by kernel_rfl)] at h
  exact mods_of (by kernel_rfl) h
/-- A world for the witness: the settled one, the table holding what its initialiser lays. -/
noncomputable def laidWorld (os : Os) : World :=
  { World.holding Tryd.prog os ⟨#[], #[], []⟩ with heap := (World.holding Tryd.prog os ⟨#[], #[], []⟩).heap.modify 0 fun
      | .cells _ t frozen => .cells modCells.toArray t frozen
      | o => o }
end Go.Proofs.YtbbimecnobnbeaaDoor

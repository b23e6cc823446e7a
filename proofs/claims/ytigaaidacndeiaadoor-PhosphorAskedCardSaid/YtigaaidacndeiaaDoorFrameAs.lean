/-
  The library's three tables and the modes': what the row's list gives, and a world that holds them.
-/
import Derived.Test.YtigaaidacndeiaaDoorFrameP
import Derived.Test.YtigaaidacndeiaaDoorModB
import Derived.LaidSub
namespace Go.Proofs.YtigaaidacndeiaaDoor
open Go.RowKit Go.ChangeShapes Go.WideShapes

theorem gMods : Tryd.prog.globalNamed "phosphor/mode.table" = some 0 := by kernel_rfl
theorem tMods : (Tryd.prog.globals[0]?).map (·.type) = some 42 := by kernel_rfl
theorem cellsFact : Tryd.prog.cellsOf 41 = 4 := by kernel_rfl
theorem cellsMods : Tryd.prog.cellsOf 42 = 68 := by kernel_rfl
theorem cellsBool : Tryd.prog.cellsOf 4 = 1 := by kernel_rfl
theorem cellsI64 : Tryd.prog.cellsOf 3 = 1 := by kernel_rfl
def modD {H : Type} (k : Nat) : DataW H := .agg [.lit (.bool (decP k)), .lit (.int .i64 (numP k)), .lit (.int .i64 (frmP k)), .lit (.bool (mbegP k))]
def factL (k : Nat) : List Value := [.bool (decP k), .int .i64 (numP k), .int .i64 (frmP k), .bool (mbegP k)]
def modDs {H : Type} : List (DataW H) := (List.range 17).map modD
theorem laid_mods {H : Type} : (Rows.laid_phosphor_mode_table : DataW H) = .agg modDs := rfl
section
variable {H : Type} {enc : TypeId × Value → H} {w : World} {base : Nat} {spare : Nat → Bool} {held : Bool}
set_option maxRecDepth 100000 in
theorem face_of {fuel : Nat} {cs : List Value} {x : DataW H × List MemPlace} {k : Nat} (h : DataW.trod enc Tryd.prog w base spare held fuel 41 cs = some x) (hx : x.1 = modD k) : cs = factL k := by
  obtain ⟨xs, n, _, rfl, hl, hxl, hf⟩ := DataW.trod_struct Tryd.underlying41 h
  rw [cellsFact] at hl
  have h0 := hf 0 _ rfl
  have h1 := hf 1 _ rfl
  have h2 := hf 2 _ rfl
  have h3 := hf 3 _ rfl
  match cs, hl, xs, hxl with
  | [c0, c1, c2, c3], _, [y0, y1, y2, y3], _ =>
    simp only [modD, List.map_cons, List.map_nil, DataW.agg.injEq, List.cons.injEq, and_true] at hx
    obtain ⟨e0, e1, e2, e3⟩ := hx
    obtain ⟨b0, q0, r0⟩ := DataW.trod_bool Tryd.underlying4 (by simpa [cellsBool] using h0)
    obtain ⟨z1, q1, r1, _⟩ := DataW.trod_int Tryd.underlying3 (by simpa [cellsI64] using h1)
    obtain ⟨z2, q2, r2, _⟩ := DataW.trod_int Tryd.underlying3 (by simpa [cellsI64] using h2)
    obtain ⟨b3, q3, r3⟩ := DataW.trod_bool Tryd.underlying4 (by simpa [cellsBool] using h3)
    rw [r0] at e0
    rw [r1] at e1
    rw [r2] at e2
    rw [r3] at e3
    have f0 : b0 = decP k := by simpa using e0
    have f1 : z1 = numP k := by simpa using e1
    have f2 : z2 = frmP k := by simpa using e2
    have f3 : b3 = mbegP k := by simpa using e3
    subst f0 f1 f2 f3
    have g0 : c0 = .bool (decP k) := by simpa using q0
    have g1 : c1 = .int .i64 (numP k) := by simpa using q1
    have g2 : c2 = .int .i64 (frmP k) := by simpa using q2
    have g3 : c3 = .bool (mbegP k) := by simpa using q3
    rw [g0, g1, g2, g3]
    rfl
set_option maxRecDepth 100000 in
theorem mods_cells {fuel : Nat} {cs : List Value} {p : List MemPlace} (h : DataW.trod enc Tryd.prog w base spare held fuel 42 cs = some (Rows.laid_phosphor_mode_table, p)) : cs = modCells := by
  obtain ⟨xs, m, _, hx, hlen, hn, hel⟩ := DataW.trod_array Tryd.underlying42 h
  rw [cellsMods] at hlen
  simp only [cellsFact] at hel
  rw [laid_mods] at hx
  have hmap : xs.map (·.1) = modDs := by
    have := congrArg Prod.fst hx
    simpa using this.symm
  have key : ∀ k, k < 17 → (cs.drop (k * 4)).take 4 = factL k := by
    intro k hk
    have hk' : k < xs.length := by omega
    have e := hel k hk
    rw [List.getElem?_eq_getElem hk'] at e
    refine face_of e ?_
    have := congrArg (fun l => l[k]?) hmap
    simp only [List.getElem?_map, List.getElem?_eq_getElem hk', Option.map_some, modDs, List.getElem?_range hk] at this
    exact Option.some.inj this
  apply List.ext_getElem?
  intro j
  by_cases hj : j < 68
  · have e1 := key (j / 4) (by omega)
    have e2 := congrArg (fun l => l[j % 4]?) e1
    simp only [List.getElem?_take, List.getElem?_drop, if_pos (Nat.mod_lt j (by decide : 0 < 4))] at e2
    rw [show j / 4 * 4 + j % 4 = j from by omega] at e2
    rw [e2]
    obtain ⟨a, b, c, d⟩ := mod_cells (j / 4) (by omega)
    have hr : j % 4 = 0 ∨ j % 4 = 1 ∨ j % 4 = 2 ∨ j % 4 = 3 := by omega
    rcases hr with r | r | r | r
    · rw [r, show j = j / 4 * 4 from by omega, show j / 4 * 4 / 4 = j / 4 from by omega, a]; rfl
    · rw [r, show j = j / 4 * 4 + 1 from by omega, show (j / 4 * 4 + 1) / 4 = j / 4 from by omega, b]; rfl
    · rw [r, show j = j / 4 * 4 + 2 from by omega, show (j / 4 * 4 + 2) / 4 = j / 4 from by omega, c]; rfl
    · rw [r, show j = j / 4 * 4 + 3 from by omega, show (j / 4 * 4 + 3) / 4 = j / 4 from by omega, d]; rfl
  · rw [List.getElem?_eq_none (by omega), List.getElem?_eq_none (by show 68 ≤ j; omega)]
end
theorem mods_at {W : World} {t0 : TypeId} {cs0 : Array Value} (hg0 : Tryd.prog.globalNamed "phosphor/mode.table" = some 0) (hv0 : W.var? Tryd.prog "phosphor/mode.table" = some cs0) (hcs : cs0.toList = modCells) (_ : t0 = t0) : Mods W := by
  refine ⟨?_, fun j v hj => ?_⟩
  · have hc := World.var?_cell hg0 hv0 0
    have e : cs0[0]? = some (.bool false) := by
      rw [← Array.getElem?_toList, hcs]; rfl
    rw [e] at hc
    rcases Nat.lt_or_ge 0 W.heap.size with h0 | h0
    · exact h0
    · exfalso
      have : W.heap[0]? = none := Array.getElem?_eq_none h0
      simp [World.cell?, this] at hc
  · have hc := World.var?_cell hg0 hv0 j
    rw [hc, ← Array.getElem?_toList, hcs]
    exact hj
/-- What the row's list gives. -/
theorem mods_of {W : World} {ls : List (String × DataW Unit)} (hp : ls.filter (fun x => x.1 == "phosphor/mode.table") = [("phosphor/mode.table", Rows.laid_phosphor_mode_table)]) (h : laidMet Tryd.prog ls W) : Mods W := by
  have h2 := h.filter (fun x => x.1 == "phosphor/mode.table")
  rw [hp] at h2
  obtain ⟨ps, ⟨g0, t0, cs0, f0, p0, q0, hg0, ht0, hv0, hd0, _, _⟩, _, _⟩ := h2
  obtain rfl := Option.some.inj (gMods.symm.trans hg0)
  obtain rfl := Option.some.inj (tMods.symm.trans ht0)
  exact mods_at (t0 := 0) gMods hv0 (mods_cells hd0) rfl
abbrev laidA : List (String × DataW Unit) := [("math/bits.deBruijn32tab", Rows.laid_math_bits_deBruijn32tab), ("math/bits.deBruijn64tab", Rows.laid_math_bits_deBruijn64tab), ("internal/strconv.uint64pow10", Rows.laid_internal_strconv_uint64pow10), ("phosphor/mode.table", Rows.laid_phosphor_mode_table)]
theorem modsAs {W : World} (h : laidMetH Tryd.prog laidA W) : Mods W := by
  rw [MakeChecks.laidMetH_plain _ _ _ (by kernel_rfl)] at h
  exact mods_of (by kernel_rfl) h
theorem tenAs {W : World} (h : laidMetH Tryd.prog laidA W) : Ten W := by
  rw [MakeChecks.laidMetH_plain _ _ _ (by kernel_rfl)] at h
  have h2 := h.filter (fun x => x.1 == "internal/strconv.uint64pow10")
  rw [show laidA.filter (fun x => x.1 == "internal/strconv.uint64pow10") = [("internal/strconv.uint64pow10", Lib.tabData .u64 Lib.pow10Tab)] from by kernel_rfl] at h2
  exact Lib.tabIs_of_head gTen tTen Tryd.underlying113 Tryd.underlying103 cellsU64 cellsTen h2
/-- A world for the witness: the settled one, each table holding what its initialiser lays. -/
noncomputable def laidWorldA (os : Os) : World :=
  { World.holding Tryd.prog os ⟨#[], #[], []⟩ with heap := (lay 3 Rows.laid_math_bits_deBruijn32tab (lay 4 Rows.laid_math_bits_deBruijn64tab (lay 1 Rows.laid_internal_strconv_uint64pow10 (World.holding Tryd.prog os ⟨#[], #[], []⟩).heap))).modify 0 fun
      | .cells _ t frozen => .cells modCells.toArray t frozen
      | o => o }
end Go.Proofs.YtigaaidacndeiaaDoor

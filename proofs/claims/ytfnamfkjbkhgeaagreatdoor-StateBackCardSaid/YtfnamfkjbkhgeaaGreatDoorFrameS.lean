/-
  Six tables: what the row's list gives, and a world that holds them all; cores that came in, opened.
-/
import Derived.Test.YtfnamfkjbkhgeaaGreatDoorRows
import Derived.Test.YtfnamfkjbkhgeaaGreatDoorFrameP
import Derived.Test.YtfnamfkjbkhgeaaGreatDoorKit2
import Derived.Test.YtfnamfkjbkhgeaaGreatDoorKit
import Derived.Test.YtfnamfkjbkhgeaaGreatDoorModC
import Derived.Test.YtfnamfkjbkhgeaaGreatDoorChsA
import Derived.Test.YtfnamfkjbkhgeaaGreatDoorStaE
import Derived.ProofKit
import Derived.OpenShut
import Derived.Deep.DeepHandedRow
import Derived.Lib.LaidTab
import Derived.LaidMore
import Derived.LaidSub
import Derived.Deep.Slices
import Derived.Deep.Fields
import Derived.ChangeSame
import Derived.Lib.SmallJoins
namespace Go.Proofs.YtfnamfkjbkhgeaaGreatDoor

open Go.RowKit Go.ChangeShapes Go.WideShapes Go.Deep

theorem gTab : Tryz.prog.globalNamed "phosphor/rend.parts" = some 0 := by kernel_rfl
theorem tTab : (Tryz.prog.globals[0]?).map (·.type) = some 162 := by kernel_rfl
theorem cellsPart : Tryz.prog.cellsOf 161 = 5 := by kernel_rfl
theorem cellsTab : Tryz.prog.cellsOf 162 = 25 := by kernel_rfl
theorem cellsU8 : Tryz.prog.cellsOf 5 = 1 := by kernel_rfl
theorem cellsRend : Tryz.prog.cellsOf 22 = 1 := by kernel_rfl

section

variable {H : Type} {enc : TypeId × Value → H} {w : World} {base : Nat} {spare : Nat → Bool} {held : Bool}

theorem lit_eq {k : IntKind} {t : TypeId} {fuel : Nat} {c : Value} {y : DataW H × List MemPlace} {n : Int} (ht : Tryz.prog.underlying t = some (.int k)) (h : DataW.trod enc Tryz.prog w base spare held fuel t [c] = some y) (hy : y.1 = .lit (.int k n)) : c = .int k n := by
  obtain ⟨m, e1, e2, _⟩ := DataW.trod_int ht h
  rw [e2] at hy
  have hm : m = n := by simpa using hy
  subst hm
  simpa using e1
set_option maxRecDepth 100000 in
theorem part_cells {fuel : Nat} {cs : List Value} {x : DataW H × List MemPlace} {a b c d e : Int} (h : DataW.trod enc Tryz.prog w base spare held fuel 161 cs = some x)
    (hx : x.1 = .agg [.lit (.int .u8 a), .lit (.int .i64 b), .lit (.int .i64 c), .lit (.int .u8 d), .lit (.int .i64 e)]) : cs = [.int .u8 a, .int .i64 b, .int .i64 c, .int .u8 d, .int .i64 e] := by
  obtain ⟨xs, n, _, rfl, hl, hxl, hf⟩ := DataW.trod_struct Tryz.underlying161 h
  rw [cellsPart] at hl
  have h0 := hf 0 _ rfl
  have h1 := hf 1 _ rfl
  have h2 := hf 2 _ rfl
  have h3 := hf 3 _ rfl
  have h4 := hf 4 _ rfl
  match cs, hl, xs, hxl with
  | [c0, c1, c2, c3, c4], _, [y0, y1, y2, y3, y4], _ =>
    simp only [List.map_cons, List.map_nil, DataW.agg.injEq, List.cons.injEq, and_true] at hx
    obtain ⟨e0, e1, e2, e3, e4⟩ := hx
    have r0 : c0 = .int .u8 a := lit_eq (enc := enc) Tryz.underlying22 (by simpa [cellsRend] using h0) e0
    have r1 : c1 = .int .i64 b := lit_eq (enc := enc) Tryz.underlying3 (by simpa [cellsInt] using h1) e1
    have r2 : c2 = .int .i64 c := lit_eq (enc := enc) Tryz.underlying3 (by simpa [cellsInt] using h2) e2
    have r3 : c3 = .int .u8 d := lit_eq (enc := enc) Tryz.underlying5 (by simpa [cellsU8] using h3) e3
    have r4 : c4 = .int .i64 e := lit_eq (enc := enc) Tryz.underlying3 (by simpa [cellsInt] using h4) e4
    rw [r0, r1, r2, r3, r4]
end

set_option maxRecDepth 100000 in
/-- What the row's list gives. -/
theorem tab_of {W : World} (h : laidMetH Tryz.prog [("phosphor/rend.parts", Rows.laid_phosphor_rend_parts)] W) : Tab W := by
  rw [MakeChecks.laidMetH_plain _ _ _ (by kernel_rfl)] at h
  obtain ⟨ps, ⟨g0, t0, cs0, f0, p0, q0, hg0, ht0, hv0, hd0, _, _⟩, _, _⟩ := h
  obtain rfl := Option.some.inj (gTab.symm.trans hg0)
  obtain rfl := Option.some.inj (tTab.symm.trans ht0)
  obtain ⟨xs, m, _, hx, hlen, hn, hel⟩ := DataW.trod_array Tryz.underlying162 hd0
  rw [cellsTab] at hlen
  simp only [cellsPart] at hel
  have i0 := hel 0 (by decide)
  have i1 := hel 1 (by decide)
  have i2 := hel 2 (by decide)
  have i3 := hel 3 (by decide)
  have i4 := hel 4 (by decide)
  have hcs : cs0.toList = tabCells := by
    match xs, hn with
    | [y0, y1, y2, y3, y4], _ =>
      simp only [Prod.mk.injEq, Rows.laid_phosphor_rend_parts, DataW.agg.injEq, List.map_cons, List.map_nil, List.cons.injEq, and_true] at hx
      obtain ⟨⟨e0, e1, e2, e3, e4⟩, _⟩ := hx
      have p0 := part_cells i0 e0.symm
      have p1 := part_cells i1 e1.symm
      have p2 := part_cells i2 e2.symm
      have p3 := part_cells i3 e3.symm
      have p4 := part_cells i4 e4.symm
      have key : ∀ l : List Value, l.length = 25 → l = (l.drop (0 * 5)).take 5 ++ ((l.drop (1 * 5)).take 5 ++ ((l.drop (2 * 5)).take 5 ++ ((l.drop (3 * 5)).take 5 ++ (l.drop (4 * 5)).take 5))) := by
        intro l hl
        match l, hl with
        | [_, _, _, _, _, _, _, _, _, _, _, _, _, _, _, _, _, _, _, _, _, _, _, _, _], _ => rfl
      rw [key _ hlen, p0, p1, p2, p3, p4]
      rfl
  refine ⟨?_, fun j v hj => ?_⟩
  · have hc := World.var?_cell hg0 hv0 0
    have e : cs0[0]? = some (.int .u8 1) := by
      rw [← Array.getElem?_toList, hcs]; rfl
    rw [e] at hc
    rcases Nat.lt_or_ge 0 W.heap.size with h0 | h0
    · exact h0
    · exfalso
      have : W.heap[0]? = none := Array.getElem?_eq_none h0
      simp [World.cell?, this] at hc
  · have hc := World.var?_cell hg0 hv0 j
    rw [hc, ← Array.getElem?_toList, hcs]
    exact hj

theorem gMods : Tryz.prog.globalNamed "phosphor/mode.table" = some 1 := by kernel_rfl
theorem tMods : (Tryz.prog.globals[1]?).map (·.type) = some 170 := by kernel_rfl
theorem cellsFact : Tryz.prog.cellsOf 169 = 4 := by kernel_rfl
theorem cellsMods : Tryz.prog.cellsOf 170 = 68 := by kernel_rfl
theorem cellsBoolN : Tryz.prog.cellsOf 4 = 1 := by kernel_rfl
theorem cellsI64 : Tryz.prog.cellsOf 3 = 1 := by kernel_rfl
def modD {H : Type} (k : Nat) : DataW H := .agg [.lit (.bool (decP k)), .lit (.int .i64 (numP k)), .lit (.int .i64 (frmP k)), .lit (.bool (mbegP k))]
def factL (k : Nat) : List Value := [.bool (decP k), .int .i64 (numP k), .int .i64 (frmP k), .bool (mbegP k)]
def modDs {H : Type} : List (DataW H) := (List.range 17).map modD
theorem laid_mods {H : Type} : (Rows.laid_phosphor_mode_table : DataW H) = .agg modDs := rfl
section

variable {H : Type} {enc : TypeId × Value → H} {w : World} {base : Nat} {spare : Nat → Bool} {held : Bool}

set_option maxRecDepth 100000 in
theorem modface_of {fuel : Nat} {cs : List Value} {x : DataW H × List MemPlace} {k : Nat} (h : DataW.trod enc Tryz.prog w base spare held fuel 169 cs = some x) (hx : x.1 = modD k) : cs = factL k := by
  obtain ⟨xs, n, _, rfl, hl, hxl, hf⟩ := DataW.trod_struct Tryz.underlying169 h
  rw [cellsFact] at hl
  have h0 := hf 0 _ rfl
  have h1 := hf 1 _ rfl
  have h2 := hf 2 _ rfl
  have h3 := hf 3 _ rfl
  match cs, hl, xs, hxl with
  | [c0, c1, c2, c3], _, [y0, y1, y2, y3], _ =>
    simp only [modD, List.map_cons, List.map_nil, DataW.agg.injEq, List.cons.injEq, and_true] at hx
    obtain ⟨e0, e1, e2, e3⟩ := hx
    obtain ⟨b0, q0, r0⟩ := DataW.trod_bool Tryz.underlying4 (by simpa [cellsBoolN] using h0)
    obtain ⟨z1, q1, r1, _⟩ := DataW.trod_int Tryz.underlying3 (by simpa [cellsI64] using h1)
    obtain ⟨z2, q2, r2, _⟩ := DataW.trod_int Tryz.underlying3 (by simpa [cellsI64] using h2)
    obtain ⟨b3, q3, r3⟩ := DataW.trod_bool Tryz.underlying4 (by simpa [cellsBoolN] using h3)
    rw [r0] at e0
    rw [r1] at e1
    rw [r2] at e2
    rw [r3] at e3
    have f0 : b0 = decP k := by simpa using e0
    have f1 : z1 = numP k := by simpa using e1
    have f2 : z2 = frmP k := by simpa using e2
    have f3 : b3 = mbegP k := by simpa using e3
    subst f0 f1 f2 f3
    have g0 : c0 = .bool (decP k) := by simpa using q0
    have g1 : c1 = .int .i64 (numP k) := by simpa using q1
    have g2 : c2 = .int .i64 (frmP k) := by simpa using q2
    have g3 : c3 = .bool (mbegP k) := by simpa using q3
    rw [g0, g1, g2, g3]
    rfl
set_option maxRecDepth 100000 in
theorem mods_cells {fuel : Nat} {cs : List Value} {p : List MemPlace} (h : DataW.trod enc Tryz.prog w base spare held fuel 170 cs = some (Rows.laid_phosphor_mode_table, p)) : cs = modCells := by
  obtain ⟨xs, m, _, hx, hlen, hn, hel⟩ := DataW.trod_array Tryz.underlying170 h
  rw [cellsMods] at hlen
  simp only [cellsFact] at hel
  rw [laid_mods] at hx
  have hmap : xs.map (·.1) = modDs := by
    have := congrArg Prod.fst hx
    simpa using this.symm
  have key : ∀ k, k < 17 → (cs.drop (k * 4)).take 4 = factL k := by
    intro k hk
    have hk' : k < xs.length := by omega
    have e := hel k hk
    rw [List.getElem?_eq_getElem hk'] at e
    refine modface_of e ?_
    have := congrArg (fun l => l[k]?) hmap
    simp only [List.getElem?_map, List.getElem?_eq_getElem hk', Option.map_some, modDs, List.getElem?_range hk] at this
    exact Option.some.inj this
  apply List.ext_getElem?
  intro j
  by_cases hj : j < 68
  · have e1 := key (j / 4) (by omega)
    have e2 := congrArg (fun l => l[j % 4]?) e1
    simp only [List.getElem?_take, List.getElem?_drop, if_pos (Nat.mod_lt j (by decide : 0 < 4))] at e2
    rw [show j / 4 * 4 + j % 4 = j from by omega] at e2
    rw [e2]
    obtain ⟨a, b, c, d⟩ := mod_cells (j / 4) (by omega)
    have hr : j % 4 = 0 ∨ j % 4 = 1 ∨ j % 4 = 2 ∨ j % 4 = 3 := by omega
    rcases hr with r | r | r | r
    · rw [r, show j = j / 4 * 4 from by omega, show j / 4 * 4 / 4 = j / 4 from by omega, a]; rfl
    · rw [r, show j = j / 4 * 4 + 1 from by omega, show (j / 4 * 4 + 1) / 4 = j / 4 from by omega, b]; rfl
    · rw [r, show j = j / 4 * 4 + 2 from by omega, show (j / 4 * 4 + 2) / 4 = j / 4 from by omega, c]; rfl
    · rw [r, show j = j / 4 * 4 + 3 from by omega, show (j / 4 * 4 + 3) / 4 = j / 4 from by omega, d]; rfl
  · rw [List.getElem?_eq_none (by omega), List.getElem?_eq_none (by show 68 ≤ j; omega)]
end

theorem mods_at {W : World} {t0 : TypeId} {cs0 : Array Value} (hg0 : Tryz.prog.globalNamed "phosphor/mode.table" = some 1) (hv0 : W.var? Tryz.prog "phosphor/mode.table" = some cs0) (hcs : cs0.toList = modCells) (_ : t0 = t0) : Mods W := by
  refine ⟨?_, fun j v hj => ?_⟩
  · have hc := World.var?_cell hg0 hv0 0
    have e : cs0[0]? = some (.bool false) := by
      rw [← Array.getElem?_toList, hcs]; rfl
    rw [e] at hc
    rcases Nat.lt_or_ge 1 W.heap.size with h0 | h0
    · exact h0
    · exfalso
      have : W.heap[1]? = none := Array.getElem?_eq_none h0
      simp [World.cell?, this] at hc
  · have hc := World.var?_cell hg0 hv0 j
    rw [hc, ← Array.getElem?_toList, hcs]
    exact hj
/-- What the row's list gives. -/
theorem mods_of {W : World} {ls : List (String × DataW Unit)} (hp : ls.filter (fun x => x.1 == "phosphor/mode.table") = [("phosphor/mode.table", Rows.laid_phosphor_mode_table)]) (h : laidMet Tryz.prog ls W) : Mods W := by
  have h2 := h.filter (fun x => x.1 == "phosphor/mode.table")
  rw [hp] at h2
  obtain ⟨ps, ⟨g0, t0, cs0, f0, p0, q0, hg0, ht0, hv0, hd0, _, _⟩, _, _⟩ := h2
  obtain rfl := Option.some.inj (gMods.symm.trans hg0)
  obtain rfl := Option.some.inj (tMods.symm.trans ht0)
  exact mods_at (t0 := 0) gMods hv0 (mods_cells hd0) rfl
theorem gFaces : Tryz.prog.globalNamed "phosphor/charset.faces" = some 2 := by kernel_rfl
theorem tFaces : (Tryz.prog.globals[2]?).map (·.type) = some 198 := by kernel_rfl
theorem cellsFace : Tryz.prog.cellsOf 175 = 4 := by kernel_rfl
theorem cellsFaces : Tryz.prog.cellsOf 198 = 72 := by kernel_rfl
theorem cellsStr : Tryz.prog.cellsOf 9 = 1 := by kernel_rfl
theorem cellsBool : Tryz.prog.cellsOf 4 = 1 := by kernel_rfl
theorem cellsI32 : Tryz.prog.cellsOf 21 = 1 := by kernel_rfl
theorem ba_ext {s t : ByteArray} (h : s.data.toList = t.data.toList) : s = t := by
  obtain ⟨⟨a⟩⟩ := s
  obtain ⟨⟨b⟩⟩ := t
  simp at h
  rw [h]
def faceD {H : Type} (k : Nat) : DataW H := .agg [.lit (.string (nmP k).data.toList), .lit (.string (idsP k).data.toList), .lit (.bool (wideP k)), .lit (.int .i32 (aboP k))]
def faceDs {H : Type} : List (DataW H) := (List.range 18).map faceD
theorem laid_faces {H : Type} : (Rows.laid_phosphor_charset_faces : DataW H) = .agg faceDs := rfl
section

variable {H : Type} {enc : TypeId × Value → H} {w : World} {base : Nat} {spare : Nat → Bool} {held : Bool}

set_option maxRecDepth 100000 in
theorem face_of {fuel : Nat} {cs : List Value} {x : DataW H × List MemPlace} {k : Nat} (h : DataW.trod enc Tryz.prog w base spare held fuel 175 cs = some x) (hx : x.1 = faceD k) : cs = faceL k := by
  obtain ⟨xs, n, _, rfl, hl, hxl, hf⟩ := DataW.trod_struct Tryz.underlying175 h
  rw [cellsFace] at hl
  have h0 := hf 0 _ rfl
  have h1 := hf 1 _ rfl
  have h2 := hf 2 _ rfl
  have h3 := hf 3 _ rfl
  match cs, hl, xs, hxl with
  | [c0, c1, c2, c3], _, [y0, y1, y2, y3], _ =>
    simp only [faceD, List.map_cons, List.map_nil, DataW.agg.injEq, List.cons.injEq, and_true] at hx
    obtain ⟨e0, e1, e2, e3⟩ := hx
    obtain ⟨s0, q0, r0, _⟩ := DataW.trod_string Tryz.underlying9 (by simpa [cellsStr] using h0)
    obtain ⟨s1, q1, r1, _⟩ := DataW.trod_string Tryz.underlying9 (by simpa [cellsStr] using h1)
    obtain ⟨b2, q2, r2⟩ := DataW.trod_bool Tryz.underlying4 (by simpa [cellsBool] using h2)
    obtain ⟨z3, q3, r3, _⟩ := DataW.trod_int Tryz.underlying21 (by simpa [cellsI32] using h3)
    rw [r0] at e0
    rw [r1] at e1
    rw [r2] at e2
    rw [r3] at e3
    have f0 : s0 = nmP k := ba_ext (by simpa using e0)
    have f1 : s1 = idsP k := ba_ext (by simpa using e1)
    have f2 : b2 = wideP k := by simpa using e2
    have f3 : z3 = aboP k := by simpa using e3
    subst f0 f1 f2 f3
    have g0 : c0 = .string (nmP k) := by simpa using q0
    have g1 : c1 = .string (idsP k) := by simpa using q1
    have g2 : c2 = .bool (wideP k) := by simpa using q2
    have g3 : c3 = .int .i32 (aboP k) := by simpa using q3
    rw [g0, g1, g2, g3]
    rfl
set_option maxRecDepth 100000 in
theorem faces_cells {fuel : Nat} {cs : List Value} {p : List MemPlace} (h : DataW.trod enc Tryz.prog w base spare held fuel 198 cs = some (Rows.laid_phosphor_charset_faces, p)) : cs = faceCells := by
  obtain ⟨xs, m, _, hx, hlen, hn, hel⟩ := DataW.trod_array Tryz.underlying198 h
  rw [cellsFaces] at hlen
  simp only [cellsFace] at hel
  rw [laid_faces] at hx
  have hmap : xs.map (·.1) = faceDs := by
    have := congrArg Prod.fst hx
    simpa using this.symm
  have key : ∀ k, k < 18 → (cs.drop (k * 4)).take 4 = faceL k := by
    intro k hk
    have hk' : k < xs.length := by omega
    have e := hel k hk
    rw [List.getElem?_eq_getElem hk'] at e
    refine face_of e ?_
    have := congrArg (fun l => l[k]?) hmap
    simp only [List.getElem?_map, List.getElem?_eq_getElem hk', Option.map_some, faceDs, List.getElem?_range hk] at this
    exact Option.some.inj this
  apply List.ext_getElem?
  intro j
  by_cases hj : j < 72
  · have e1 := key (j / 4) (by omega)
    have e2 := congrArg (fun l => l[j % 4]?) e1
    simp only [List.getElem?_take, List.getElem?_drop, if_pos (Nat.mod_lt j (by decide : 0 < 4))] at e2
    rw [show j / 4 * 4 + j % 4 = j from by omega] at e2
    rw [e2]
    obtain ⟨a, b, c, d⟩ := face_cells (j / 4) (by omega)
    have hr : j % 4 = 0 ∨ j % 4 = 1 ∨ j % 4 = 2 ∨ j % 4 = 3 := by omega
    rcases hr with r | r | r | r
    · rw [r, show j = j / 4 * 4 from by omega, show j / 4 * 4 / 4 = j / 4 from by omega, a]; rfl
    · rw [r, show j = j / 4 * 4 + 1 from by omega, show (j / 4 * 4 + 1) / 4 = j / 4 from by omega, b]; rfl
    · rw [r, show j = j / 4 * 4 + 2 from by omega, show (j / 4 * 4 + 2) / 4 = j / 4 from by omega, c]; rfl
    · rw [r, show j = j / 4 * 4 + 3 from by omega, show (j / 4 * 4 + 3) / 4 = j / 4 from by omega, d]; rfl
  · rw [List.getElem?_eq_none (by omega), List.getElem?_eq_none (by show 72 ≤ j; omega)]
end

theorem faces_at {W : World} {t0 : TypeId} {cs0 : Array Value} (hg0 : Tryz.prog.globalNamed "phosphor/charset.faces" = some 2) (hv0 : W.var? Tryz.prog "phosphor/charset.faces" = some cs0) (hcs : cs0.toList = faceCells) (_ : t0 = t0) : Faces W := by
  refine ⟨?_, fun j v hj => ?_⟩
  · have hc := World.var?_cell hg0 hv0 0
    have e : cs0[0]? = some (.string ⟨#[]⟩) := by
      rw [← Array.getElem?_toList, hcs]; rfl
    rw [e] at hc
    rcases Nat.lt_or_ge 2 W.heap.size with h0 | h0
    · exact h0
    · exfalso
      have : W.heap[2]? = none := Array.getElem?_eq_none h0
      simp [World.cell?, this] at hc
  · have hc := World.var?_cell hg0 hv0 j
    rw [hc, ← Array.getElem?_toList, hcs]
    exact hj
/-- What the row's list gives. -/
theorem faces_of {W : World} {ls : List (String × DataW Unit)} (hp : ls.filter (fun x => x.1 == "phosphor/charset.faces") = [("phosphor/charset.faces", Rows.laid_phosphor_charset_faces)]) (h : laidMet Tryz.prog ls W) : Faces W := by
  have h2 := h.filter (fun x => x.1 == "phosphor/charset.faces")
  rw [hp] at h2
  obtain ⟨ps, ⟨g0, t0, cs0, f0, p0, q0, hg0, ht0, hv0, hd0, _, _⟩, _, _⟩ := h2
  obtain rfl := Option.some.inj (gFaces.symm.trans hg0)
  obtain rfl := Option.some.inj (tFaces.symm.trans ht0)
  exact faces_at (t0 := 0) gFaces hv0 (faces_cells hd0) rfl
abbrev laidS : List (String × DataW Unit) := [("math/bits.deBruijn32tab", Rows.laid_math_bits_deBruijn32tab), ("math/bits.deBruijn64tab", Rows.laid_math_bits_deBruijn64tab), ("internal/strconv.uint64pow10", Rows.laid_internal_strconv_uint64pow10), ("phosphor/mode.table", Rows.laid_phosphor_mode_table), ("phosphor/rend.parts", Rows.laid_phosphor_rend_parts), ("phosphor/charset.faces", Rows.laid_phosphor_charset_faces)]
theorem tabS {W : World} (h : laidMetH Tryz.prog laidS W) : Tab W := by
  rw [MakeChecks.laidMetH_plain _ _ _ (by kernel_rfl)] at h
  have h2 := h.filter (fun x => x.1 == "phosphor/rend.parts")
  rw [show laidS.filter (fun x => x.1 == "phosphor/rend.parts") = [("phosphor/rend.parts", Rows.laid_phosphor_rend_parts)] from by kernel_rfl] at h2
  exact tab_of (by rw [MakeChecks.laidMetH_plain _ _ _ (by kernel_rfl)]; exact h2)
theorem tenS {W : World} (h : laidMetH Tryz.prog laidS W) : Ten W := by
  rw [MakeChecks.laidMetH_plain _ _ _ (by kernel_rfl)] at h
  have h2 := h.filter (fun x => x.1 == "internal/strconv.uint64pow10")
  rw [show laidS.filter (fun x => x.1 == "internal/strconv.uint64pow10") = [("internal/strconv.uint64pow10", Lib.tabData .u64 Lib.pow10Tab)] from by kernel_rfl] at h2
  exact Lib.tabIs_of_head gTen tTen Tryz.underlying215 Tryz.underlying200 cellsU64 cellsTen h2
theorem modsS {W : World} (h : laidMetH Tryz.prog laidS W) : Mods W := by
  rw [MakeChecks.laidMetH_plain _ _ _ (by kernel_rfl)] at h
  exact mods_of (by kernel_rfl) h
theorem facesS {W : World} (h : laidMetH Tryz.prog laidS W) : Faces W := by
  rw [MakeChecks.laidMetH_plain _ _ _ (by kernel_rfl)] at h
  exact faces_of (by kernel_rfl) h
/-- A world for the witness: the settled one, each table holding what its initialiser lays. -/
noncomputable def laidWorldS (os : Os) : World :=
  let put (h : Array Obj) (g : Nat) (cs : Array Value) : Array Obj := h.modify g fun
    | .cells _ t frozen => .cells cs t frozen
    | o => o
  { World.holding Tryz.prog os ⟨#[], #[], []⟩ with heap := put (put (put (lay 7 Rows.laid_math_bits_deBruijn32tab (lay 8 Rows.laid_math_bits_deBruijn64tab (lay 3 Rows.laid_internal_strconv_uint64pow10 (World.holding Tryz.prog os ⟨#[], #[], []⟩).heap))) 0 tabCells.toArray) 1 modCells.toArray) 2 faceCells.toArray }

theorem cellsCurR : Tryz.prog.cellsOf 27 = 13 := by kernel_rfl
theorem cellsFrR : Tryz.prog.cellsOf 31 = 8 := by kernel_rfl
theorem cellsStU : Tryz.prog.cellsOf 25 = 7 := by kernel_rfl
theorem cellsBoxU : Tryz.prog.cellsOf 29 = 4 := by kernel_rfl
theorem cellsFourU : Tryz.prog.cellsOf 23 = 4 := by kernel_rfl
theorem cellsIntU : Tryz.prog.cellsOf 3 = 1 := by kernel_rfl
theorem cellsBoolU : Tryz.prog.cellsOf 4 = 1 := by kernel_rfl
theorem cellsRendU : Tryz.prog.cellsOf 22 = 1 := by kernel_rfl
section

variable {H : Type} {enc : TypeId × Value → H} {W : World}

theorem box_cells {n : Nat} {c0 c1 c2 c3 : Value} {y : DataW H × List MemPlace} (h : DataW.trod enc Tryz.prog W 0 (fun _ => true) true n 29 [c0, c1, c2, c3] = some y) : ∃ t l b r : Int, c0 = .int .i64 t ∧ c1 = .int .i64 l ∧ c2 = .int .i64 b ∧ c3 = .int .i64 r := by
  obtain ⟨xs, n, _, hx, hl, hxl, hfi⟩ := DataW.trod_struct Tryz.underlying29 h
  have h0 := hfi 0 _ rfl
  have h1 := hfi 1 _ rfl
  have h2 := hfi 2 _ rfl
  have h3 := hfi 3 _ rfl
  match xs, hxl with
  | [y0, y1, y2, y3], _ =>
    obtain ⟨z0, e0, _⟩ := DataW.trod_int Tryz.underlying3 (show DataW.trod enc Tryz.prog W 0 (fun _ => true) true n 3 [c0] = some y0 from by simpa [cellsIntU] using h0)
    obtain ⟨z1, e1, _⟩ := DataW.trod_int Tryz.underlying3 (show DataW.trod enc Tryz.prog W 0 (fun _ => true) true n 3 [c1] = some y1 from by simpa [cellsIntU] using h1)
    obtain ⟨z2, e2, _⟩ := DataW.trod_int Tryz.underlying3 (show DataW.trod enc Tryz.prog W 0 (fun _ => true) true n 3 [c2] = some y2 from by simpa [cellsIntU] using h2)
    obtain ⟨z3, e3, _⟩ := DataW.trod_int Tryz.underlying3 (show DataW.trod enc Tryz.prog W 0 (fun _ => true) true n 3 [c3] = some y3 from by simpa [cellsIntU] using h3)
    simp at e0 e1 e2 e3
    exact ⟨z0, z1, z2, z3, e0, e1, e2, e3⟩
theorem st_cells {n : Nat} {c0 c1 c2 c3 c4 c5 c6 : Value} {y : DataW H × List MemPlace} (h : DataW.trod enc Tryz.prog W 0 (fun _ => true) true n 25 [c0, c1, c2, c3, c4, c5, c6] = some y) :
    ∃ a b c d l r s : Int, c0 = .int .i64 a ∧ c1 = .int .i64 b ∧ c2 = .int .i64 c ∧ c3 = .int .i64 d ∧ c4 = .int .i64 l ∧ c5 = .int .i64 r ∧ c6 = .int .i64 s := by
  obtain ⟨xs, n, _, hx, hl, hxl, hfi⟩ := DataW.trod_struct Tryz.underlying25 h
  have h0 := hfi 0 _ rfl
  have h1 := hfi 1 _ rfl
  have h2 := hfi 2 _ rfl
  have h3 := hfi 3 _ rfl
  match xs, hxl with
  | [y0, y1, y2, y3], _ =>
    have k0 : DataW.trod enc Tryz.prog W 0 (fun _ => true) true n 23 [c0, c1, c2, c3] = some y0 := by simpa [cellsFourU] using h0
    obtain ⟨z1, e1, _⟩ := DataW.trod_int Tryz.underlying3 (show DataW.trod enc Tryz.prog W 0 (fun _ => true) true n 3 [c4] = some y1 from by simpa [cellsIntU] using h1)
    obtain ⟨z2, e2, _⟩ := DataW.trod_int Tryz.underlying3 (show DataW.trod enc Tryz.prog W 0 (fun _ => true) true n 3 [c5] = some y2 from by simpa [cellsIntU] using h2)
    obtain ⟨z3, e3, _⟩ := DataW.trod_int Tryz.underlying3 (show DataW.trod enc Tryz.prog W 0 (fun _ => true) true n 3 [c6] = some y3 from by simpa [cellsIntU] using h3)
    obtain ⟨ys, m, _, hy, hyl, hyn, hel⟩ := DataW.trod_array Tryz.underlying23 k0
    simp only [cellsIntU] at hel
    have g0 := hel 0 (by decide)
    have g1 := hel 1 (by decide)
    have g2 := hel 2 (by decide)
    have g3 := hel 3 (by decide)
    match ys, hyn with
    | [u0, u1, u2, u3], _ =>
      obtain ⟨a0, b0, _⟩ := DataW.trod_int Tryz.underlying3 (show DataW.trod enc Tryz.prog W 0 (fun _ => true) true m 3 [c0] = some u0 from by simpa using g0)
      obtain ⟨a1, b1, _⟩ := DataW.trod_int Tryz.underlying3 (show DataW.trod enc Tryz.prog W 0 (fun _ => true) true m 3 [c1] = some u1 from by simpa using g1)
      obtain ⟨a2, b2, _⟩ := DataW.trod_int Tryz.underlying3 (show DataW.trod enc Tryz.prog W 0 (fun _ => true) true m 3 [c2] = some u2 from by simpa using g2)
      obtain ⟨a3, b3, _⟩ := DataW.trod_int Tryz.underlying3 (show DataW.trod enc Tryz.prog W 0 (fun _ => true) true m 3 [c3] = some u3 from by simpa using g3)
      simp at e1 e2 e3 b0 b1 b2 b3
      exact ⟨_, _, _, _, _, _, _, b0, b1, b2, b3, e1, e2, e3⟩
theorem cur_cells {n : Nat} {c0 c1 c2 c3 c4 c5 c6 c7 c8 c9 c10 c11 c12 : Value} {y : DataW H × List MemPlace} (h : DataW.trod enc Tryz.prog W 0 (fun _ => true) true n 27 [c0, c1, c2, c3, c4, c5, c6, c7, c8, c9, c10, c11, c12] = some y) : ∃ (r c : Int) (wp : Bool) (K : CK), [c0, c1, c2, c3, c4, c5, c6, c7, c8, c9, c10, c11, c12] = (uC r c wp K).toList ∧ 0 ≤ K.rd ∧ K.rd ≤ 255 := by
  obtain ⟨xs, n, _, hx, hl, hxl, hfi⟩ := DataW.trod_struct Tryz.underlying27 h
  have h0 := hfi 0 _ rfl
  have h1 := hfi 1 _ rfl
  have h2 := hfi 2 _ rfl
  have h3 := hfi 3 _ rfl
  have h4 := hfi 4 _ rfl
  have h5 := hfi 5 _ rfl
  have h6 := hfi 6 _ rfl
  match xs, hxl with
  | [y0, y1, y2, y3, y4, y5, y6], _ =>
    obtain ⟨z0, e0, _⟩ := DataW.trod_int Tryz.underlying3 (show DataW.trod enc Tryz.prog W 0 (fun _ => true) true n 3 [c0] = some y0 from by simpa [cellsIntU] using h0)
    obtain ⟨z1, e1, _⟩ := DataW.trod_int Tryz.underlying3 (show DataW.trod enc Tryz.prog W 0 (fun _ => true) true n 3 [c1] = some y1 from by simpa [cellsIntU] using h1)
    obtain ⟨z2, e2, _, w2⟩ := DataW.trod_int Tryz.underlying22 (show DataW.trod enc Tryz.prog W 0 (fun _ => true) true n 22 [c2] = some y2 from by simpa [cellsRendU] using h2)
    obtain ⟨z3, e3, _⟩ := DataW.trod_bool Tryz.underlying4 (show DataW.trod enc Tryz.prog W 0 (fun _ => true) true n 4 [c3] = some y3 from by simpa [cellsBoolU] using h3)
    obtain ⟨z4, e4, _⟩ := DataW.trod_bool Tryz.underlying4 (show DataW.trod enc Tryz.prog W 0 (fun _ => true) true n 4 [c4] = some y4 from by simpa [cellsBoolU] using h4)
    obtain ⟨z5, e5, _⟩ := DataW.trod_bool Tryz.underlying4 (show DataW.trod enc Tryz.prog W 0 (fun _ => true) true n 4 [c5] = some y5 from by simpa [cellsBoolU] using h5)
    obtain ⟨a, b, c, d', l, r, s, k0, k1, k2, k3, k4, k5, k6⟩ := st_cells (show DataW.trod enc Tryz.prog W 0 (fun _ => true) true n 25 [c6, c7, c8, c9, c10, c11, c12] = some y6 from by simpa [cellsStU] using h6)
    simp at e0 e1 e2 e3 e4 e5
    subst e0 e1 e2 e3 e4 e5 k0 k1 k2 k3 k4 k5 k6
    obtain ⟨lo, hi⟩ := bounds_u8 w2
    exact ⟨z0, z1, z4, ⟨z2, z3, z5, a, b, c, d', l, r, s⟩, rfl, lo, hi⟩
theorem fr_cells {n : Nat} {c0 c1 c2 c3 c4 c5 c6 c7 : Value} {y : DataW H × List MemPlace} (h : DataW.trod enc Tryz.prog W 0 (fun _ => true) true n 31 [c0, c1, c2, c3, c4, c5, c6, c7] = some y) : ∃ f : Fr, [c0, c1, c2, c3, c4, c5, c6, c7] = (fC f).toList := by
  obtain ⟨xs, n, _, hx, hl, hxl, hfi⟩ := DataW.trod_struct Tryz.underlying31 h
  have h0 := hfi 0 _ rfl
  have h1 := hfi 1 _ rfl
  match xs, hxl with
  | [y0, y1], _ =>
    obtain ⟨a, b, c, d', k0, k1, k2, k3⟩ := box_cells (show DataW.trod enc Tryz.prog W 0 (fun _ => true) true n 29 [c0, c1, c2, c3] = some y0 from by simpa [cellsBoxU] using h0)
    obtain ⟨a', b', c', d'', g0, g1, g2, g3⟩ := box_cells (show DataW.trod enc Tryz.prog W 0 (fun _ => true) true n 29 [c4, c5, c6, c7] = some y1 from by simpa [cellsBoxU] using h1)
    subst k0 k1 k2 k3 g0 g1 g2 g3
    exact ⟨⟨a, b, c, d', a', b', c', d''⟩, rfl⟩
end

theorem cellsCoR : Tryz.prog.cellsOf 33 = 29 := by kernel_rfl
set_option maxRecDepth 100000 in
set_option maxHeartbeats 2000000 in
theorem core_in {H : Type} {enc : TypeId × Value → H} {W : World} {base : Nat} {v : Value} {d : DataW H} {p : List MemPlace} (hv : Value.okWide Tryz.prog W .any base 33 v)
    (h : DataW.Trod enc Tryz.prog W 0 (fun _ => true) true 33 v d p) : ∃ (x : Co) (mz : Int), v = .agg (coZ x mz) ∧ 0 ≤ x.K.rd ∧ x.K.rd ≤ 255 := by
  obtain ⟨⟨cs⟩, rfl, hsz⟩ := okWide_struct Tryz.underlying33 hv
  rw [cellsCoR] at hsz
  obtain ⟨fuel, hf⟩ := h
  obtain ⟨xs, n, _, hx, hl, hxl, hfi⟩ := DataW.trod_struct Tryz.underlying33 hf
  have h0 := hfi 0 _ rfl
  have h1 := hfi 1 _ rfl
  have h2 := hfi 2 _ rfl
  have h3 := hfi 3 _ rfl
  have h4 := hfi 4 _ rfl
  have h5 := hfi 5 _ rfl
  have h6 := hfi 6 _ rfl
  have h7 := hfi 7 _ rfl
  have h8 := hfi 8 _ rfl
  have h9 := hfi 9 _ rfl
  match cs, hsz, xs, hxl with
  | [c0, c1, c2, c3, c4, c5, c6, c7, c8, c9, c10, c11, c12, c13, c14, c15, c16, c17, c18, c19, c20, c21, c22, c23, c24, c25, c26, c27, c28], _, [y0, y1, y2, y3, y4, y5, y6, y7, y8, y9], _ =>
    obtain ⟨r, c, wp, K, hK, lo, hi⟩ := cur_cells (show DataW.trod enc Tryz.prog W 0 (fun _ => true) true n 27 [c0, c1, c2, c3, c4, c5, c6, c7, c8, c9, c10, c11, c12] = some y0 from by simpa [cellsCurR, Value.cells] using h0)
    obtain ⟨f, hF⟩ := fr_cells (show DataW.trod enc Tryz.prog W 0 (fun _ => true) true n 31 [c13, c14, c15, c16, c17, c18, c19, c20] = some y1 from by simpa [cellsFrR, Value.cells] using h1)
    obtain ⟨z2, e2, _⟩ := DataW.trod_int Tryz.underlying3 (show DataW.trod enc Tryz.prog W 0 (fun _ => true) true n 3 [c21] = some y2 from by simpa [cellsIntU, Value.cells] using h2)
    obtain ⟨z3, e3, _⟩ := DataW.trod_int Tryz.underlying3 (show DataW.trod enc Tryz.prog W 0 (fun _ => true) true n 3 [c22] = some y3 from by simpa [cellsIntU, Value.cells] using h3)
    obtain ⟨z4, e4, _⟩ := DataW.trod_bool Tryz.underlying4 (show DataW.trod enc Tryz.prog W 0 (fun _ => true) true n 4 [c23] = some y4 from by simpa [cellsBoolU, Value.cells] using h4)
    obtain ⟨z5, e5, _⟩ := DataW.trod_bool Tryz.underlying4 (show DataW.trod enc Tryz.prog W 0 (fun _ => true) true n 4 [c24] = some y5 from by simpa [cellsBoolU, Value.cells] using h5)
    obtain ⟨z6, e6, _⟩ := DataW.trod_int Tryz.underlying3 (show DataW.trod enc Tryz.prog W 0 (fun _ => true) true n 3 [c25] = some y6 from by simpa [cellsIntU, Value.cells] using h6)
    obtain ⟨z7, e7, _⟩ := DataW.trod_bool Tryz.underlying4 (show DataW.trod enc Tryz.prog W 0 (fun _ => true) true n 4 [c26] = some y7 from by simpa [cellsBoolU, Value.cells] using h7)
    obtain ⟨z8, e8, _⟩ := DataW.trod_int Tryz.underlying3 (show DataW.trod enc Tryz.prog W 0 (fun _ => true) true n 3 [c27] = some y8 from by simpa [cellsIntU, Value.cells] using h8)
    obtain ⟨z9, e9, _⟩ := DataW.trod_int Tryz.underlying3 (show DataW.trod enc Tryz.prog W 0 (fun _ => true) true n 3 [c28] = some y9 from by simpa [cellsIntU, Value.cells] using h9)
    simp at e2 e3 e4 e5 e6 e7 e8 e9
    simp only [List.cons.injEq, and_true] at hK hF
    obtain ⟨k0, k1, k2, k3, k4, k5, k6, k7, k8, k9, k10, k11, k12⟩ := hK
    obtain ⟨j0, j1, j2, j3, j4, j5, j6, j7⟩ := hF
    subst e2 e3 e4 e5 e6 e7 e8 e9 k0 k1 k2 k3 k4 k5 k6 k7 k8 k9 k10 k11 k12 j0 j1 j2 j3 j4 j5 j6 j7
    exact ⟨⟨r, c, wp, K, f, 0, z3, z4, z5, z6, z7, z8, z9⟩, z2, rfl, lo, hi⟩
end Go.Proofs.YtfnamfkjbkhgeaaGreatDoor

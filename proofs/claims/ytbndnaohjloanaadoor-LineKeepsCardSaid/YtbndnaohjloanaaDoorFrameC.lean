/-
  A slice of cells that came in, opened; a cell that came in.
-/
import Derived.Test.YtbndnaohjloanaaDoorFrameB
import Derived.Test.YtbndnaohjloanaaDoorCl
import Derived.Deep.Slices
import Derived.Deep.Fields
import Derived.ChangeSame
import Derived.Lib.SmallJoins
namespace Go.Proofs.YtbndnaohjloanaaDoor

open Go.RowKit Go.ChangeShapes Go.WideShapes Go.Deep

section

variable {H : Type} {enc : TypeId × Value → H} {P : Program} {w : World} {base : Nat} {spare : Nat → Bool} {held : Bool}

theorem open_slice_fields {t e : TypeId} {fs : Array Field} {fuel : Nat} {cs : List Value} {x : DataW H × List MemPlace} (ht : P.underlying t = some (.slice e)) (he : P.underlying e = some (.struct fs))
    (hone : oneCellFields P fs = true) (hC : P.cellsOf e = fs.size) (h : DataW.trod enc P w base spare held fuel t cs = some x) :
    (cs = [.slice none 0 0] ∧ x = (.nil, [])) ∨
    ∃ (a : Addr) (len cap m : Nat) (D : Nat → DataW H) (Pl : Nat → List MemPlace), cs = [.slice (some a) len cap] ∧ base ≤ a.block ∧ len ≤ cap ∧ cap ≤ maxLen ∧ m = (if spare a.block then cap else len) ∧
      x = (.slice ((List.range len).map D) ((List.range (m - len)).map fun j => D (len + j)), MemPlace.row a (m * fs.size) ++ (List.range m).flatMap Pl) ∧
      ∀ i, i < m → ∃ (ys : List (DataW H × List MemPlace)) (n : Nat), D i = .agg (ys.map (·.1)) ∧ Pl i = ys.flatMap (·.2) ∧ ys.length = fs.size ∧
        ∀ (j : Nat) (f : Field), fs[j]? = some f → ∃ (v : Value) (y : DataW H × List MemPlace), w.cell? (a.add (i * fs.size + j)) = some v ∧ ys[j]? = some y ∧ DataW.trod enc P w base spare held n f.type [v] = some y := by
  rcases open_slice ht h with h0 | ⟨a, len, cap, m, n, D, Pl, hcs, hb, hl, hm, hmm, hx, hi⟩
  · exact .inl h0
  · refine .inr ⟨a, len, cap, m, D, Pl, hcs, hb, hl, hm, hmm, by rw [hC] at hx; exact hx, fun i him => ?_⟩
    obtain ⟨cs', hc, ht'⟩ := hi i him
    rw [hC] at hc
    obtain ⟨ys, n', hn', hy, hlen, hyl, hf⟩ := DataW.trod_struct he ht'
    obtain ⟨_, hcl, hat⟩ := World.cells?_some hc
    simp only [Prod.mk.injEq] at hy
    refine ⟨ys, n', hy.1, hy.2, hyl, fun j f hj => ?_⟩
    obtain ⟨ho, hk⟩ := hone_of hone j f hj
    have hjl : j < fs.size := (Array.getElem?_eq_some_iff.1 hj).1
    have hcell := hat j hjl
    have hv : cs'[j]? = some (cs'[j]'(by omega)) := List.getElem?_eq_getElem (by omega)
    have h1 := hf j f hj
    rw [ho, hk] at h1
    have hone' : (cs'.drop j).take 1 = [cs'[j]'(by omega)] := by
      rw [List.drop_eq_getElem_cons (by omega)]
      rfl
    rw [hone'] at h1
    have hys : ys[j]? = some (ys[j]'(by omega)) := List.getElem?_eq_getElem (by omega)
    refine ⟨_, _, ?_, hys, h1.trans hys⟩
    rw [← Go.Deep.add_add, hcell, hv]
end

theorem cellsCell : Tryd.prog.cellsOf 45 = 3 := by kernel_rfl
theorem cellsI32 : Tryd.prog.cellsOf 21 = 1 := by kernel_rfl
theorem cellsBool : Tryd.prog.cellsOf 4 = 1 := by kernel_rfl
theorem rcells_of {W : World} {a : Addr} {f : Nat → Cl} {len : Nat} (hb : 0 < len → a.block < W.heap.size)
    (h : ∀ i, i < len → W.cell? (a.add (i * 3)) = some (.int .i32 (f i).g) ∧ W.cell? (a.add (i * 3 + 1)) = some (.int .u8 (f i).r) ∧ W.cell? (a.add (i * 3 + 2)) = some (.bool (f i).k)) :
    RCells W (some a) ((List.range len).map f) := by
  refine ⟨flat_len _, fun hn => ⟨a, rfl, hb (by simpa using hn), fun j u hu => ?_⟩⟩
  have hj : j < len * 3 := by
    rcases Nat.lt_or_ge j (len * 3) with h' | h'
    · exact h'
    · rw [List.getElem?_eq_none (by rw [flat_len]; simpa using h')] at hu; cases hu
  have hk : j / 3 < ((List.range len).map f).length := by simp; omega
  obtain ⟨h1, h2, h3⟩ := flat_at _ (j / 3) hk
  obtain ⟨g1, g2, g3⟩ := h (j / 3) (by omega)
  have e : ((List.range len).map f)[j / 3] = f (j / 3) := by simp
  rw [e] at h1 h2 h3
  rcases (by omega : j = j / 3 * 3 ∨ j = j / 3 * 3 + 1 ∨ j = j / 3 * 3 + 2) with hjj | hjj | hjj
  · rw [hjj] at hu ⊢; rw [g1, ← h1, hu]
  · rw [hjj] at hu ⊢; rw [g2, ← h2, hu]
  · rw [hjj] at hu ⊢; rw [g3, ← h3, hu]
set_option maxRecDepth 100000 in
theorem cells_in {H : Type} {enc : TypeId × Value → H} {W : World} {b : Option Addr} {len cap : Nat} {d : DataW H} {p : List MemPlace}
    (h : DataW.Trod enc Tryd.prog W 0 (fun _ => true) true 22 (.slice b len cap) d p) :
    ∃ l : List Cl, len = l.length ∧ l.length ≤ maxLen ∧ l.length ≤ cap ∧ OkCells l ∧ RCells W b l := by
  obtain ⟨fuel, hf⟩ := h
  rcases open_slice_fields Tryd.underlying22 Tryd.underlying45 (by kernel_rfl) cellsCell hf with ⟨hcs, _⟩ | ⟨a, len', cap', m, D, Pl, hcs, _, hl, hm, hmm, _, hi⟩
  · simp [Value.cells] at hcs
    obtain ⟨rfl, rfl, rfl⟩ := hcs
    exact ⟨[], rfl, by simp, by simp, fun _ h => by simp at h, ⟨rfl, fun h => absurd h (by simp)⟩⟩
  · simp [Value.cells] at hcs
    obtain ⟨rfl, rfl, rfl⟩ := hcs
    simp at hmm
    subst hmm
    have each : ∀ i, ∃ c : Cl, i < len → (c.ok ∧ W.cell? (a.add (i * 3)) = some (.int .i32 c.g) ∧ W.cell? (a.add (i * 3 + 1)) = some (.int .u8 c.r) ∧ W.cell? (a.add (i * 3 + 2)) = some (.bool c.k)) := by
      intro i
      by_cases hlt : i < len
      · obtain ⟨ys, n, _, _, _, hfs⟩ := hi i (by omega)
        obtain ⟨v0, y0, c0, _, t0⟩ := hfs 0 _ rfl
        obtain ⟨v1, y1, c1, _, t1⟩ := hfs 1 _ rfl
        obtain ⟨v2, y2, c2, _, t2⟩ := hfs 2 _ rfl
        obtain ⟨g, e0, _, w0⟩ := DataW.trod_int Tryd.underlying21 t0
        obtain ⟨r, e1, _, w1⟩ := DataW.trod_int Tryd.underlying43 t1
        obtain ⟨k, e2, _⟩ := DataW.trod_bool Tryd.underlying4 t2
        simp at e0 e1 e2
        subst e0 e1 e2
        exact ⟨⟨g, r, k⟩, fun _ => ⟨⟨bounds_i32 w0, bounds_u8 w1⟩, c0, c1, c2⟩⟩
      · exact ⟨⟨0, 0, false⟩, fun h => absurd h hlt⟩
    obtain ⟨f, hF⟩ := Classical.axiomOfChoice each
    refine ⟨(List.range len).map f, by simp, by simp; omega, by simpa using hl, fun c hc => ?_, rcells_of (fun hn => ?_) (fun i hlt => (hF i hlt).2)⟩
    · obtain ⟨i, hi, rfl⟩ := List.mem_map.1 hc
      exact (hF i (List.mem_range.1 hi)).1
    · have := cell_lt (hF 0 hn).2.1
      rwa [block_of_add] at this
set_option maxRecDepth 100000 in
open Go.Joins in
theorem cell_in {H : Type} {enc : TypeId × Value → H} {W : World} {base : Nat} {v : Value} {d : DataW H} {p : List MemPlace} (hv : Value.okWide Tryd.prog W .any base 45 v)
    (h : DataW.Trod enc Tryd.prog W 0 (fun _ => true) true 45 v d p) : ∃ c : Cl, v = .agg #[.int .i32 c.g, .int .u8 c.r, .bool c.k] ∧ c.ok := by
  obtain ⟨c0, c1, c2, y0, y1, y2, m, rfl, _, _, h0, h1, h2⟩ := open_agg3 Tryd.underlying45 (by kernel_rfl) cellsCell hv h
  obtain ⟨g, e0, _, w0⟩ := DataW.trod_int Tryd.underlying21 h0
  obtain ⟨r, e1, _, w1⟩ := DataW.trod_int Tryd.underlying43 h1
  obtain ⟨k, e2, _⟩ := DataW.trod_bool Tryd.underlying4 h2
  simp at e0 e1 e2
  subst e0 e1 e2
  exact ⟨⟨g, r, k⟩, rfl, bounds_i32 w0, bounds_u8 w1⟩
end Go.Proofs.YtbndnaohjloanaaDoor

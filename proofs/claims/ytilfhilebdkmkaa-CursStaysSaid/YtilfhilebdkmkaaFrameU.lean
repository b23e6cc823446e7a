/-
  Cursors, frames, places, deeds that came in, opened.
-/
import Derived.Test.YtilfhilebdkmkaaFrameB
import Derived.Test.YtilfhilebdkmkaaCurN
import Derived.Deep.Slices
import Derived.Deep.Fields
import Derived.ChangeSame
import Derived.Lib.SmallJoins
namespace Go.Proofs.Ytilfhilebdkmkaa
open Go.RowKit Go.ChangeShapes Go.WideShapes Go.Deep

theorem cellsCurR : Try.prog.cellsOf 27 = 13 := by kernel_rfl
theorem cellsFrR : Try.prog.cellsOf 31 = 8 := by kernel_rfl
theorem cellsStU : Try.prog.cellsOf 25 = 7 := by kernel_rfl
theorem cellsBoxU : Try.prog.cellsOf 29 = 4 := by kernel_rfl
theorem cellsFourU : Try.prog.cellsOf 23 = 4 := by kernel_rfl
theorem cellsIntU : Try.prog.cellsOf 3 = 1 := by kernel_rfl
theorem cellsBoolU : Try.prog.cellsOf 4 = 1 := by kernel_rfl
theorem cellsRendU : Try.prog.cellsOf 22 = 1 := by kernel_rfl
section
variable {H : Type} {enc : TypeId × Value → H} {W : World}
theorem box_cells {n : Nat} {c0 c1 c2 c3 : Value} {y : DataW H × List MemPlace} (h : DataW.trod enc Try.prog W 0 (fun _ => true) true n 29 [c0, c1, c2, c3] = some y) : ∃ t l b r : Int, c0 = .int .i64 t ∧ c1 = .int .i64 l ∧ c2 = .int .i64 b ∧ c3 = .int .i64 r := by
  obtain ⟨xs, n, _, hx, hl, hxl, hfi⟩ := DataW.trod_struct Try.underlying29 h
  have h0 := hfi 0 _ rfl
  have h1 := hfi 1 _ rfl
  have h2 := hfi 2 _ rfl
  have h3 := hfi 3 _ rfl
  match xs, hxl with
  | [y0, y1, y2, y3], _ =>
    obtain ⟨z0, e0, _⟩ := DataW.trod_int Try.underlying3 (show DataW.trod enc Try.prog W 0 (fun _ => true) true n 3 [c0] = some y0 from by simpa [cellsIntU] using h0)
    obtain ⟨z1, e1, _⟩ := DataW.trod_int Try.underlying3 (show DataW.trod enc Try.prog W 0 (fun _ => true) true n 3 [c1] = some y1 from by simpa [cellsIntU] using h1)
    obtain ⟨z2, e2, _⟩ := DataW.trod_int Try.underlying3 (show DataW.trod enc Try.prog W 0 (fun _ => true) true n 3 [c2] = some y2 from by simpa [cellsIntU] using h2)
    obtain ⟨z3, e3, _⟩ := DataW.trod_int Try.underlying3 (show DataW.trod enc Try.prog W 0 (fun _ => true) true n 3 [c3] = some y3 from by simpa [cellsIntU] using h3)
    simp at e0 e1 e2 e3
    exact ⟨z0, z1, z2, z3, e0, e1, e2, e3⟩
theorem st_cells {n : Nat} {c0 c1 c2 c3 c4 c5 c6 : Value} {y : DataW H × List MemPlace} (h : DataW.trod enc Try.prog W 0 (fun _ => true) true n 25 [c0, c1, c2, c3, c4, c5, c6] = some y) :
    ∃ a b c d l r s : Int, c0 = .int .i64 a ∧ c1 = .int .i64 b ∧ c2 = .int .i64 c ∧ c3 = .int .i64 d ∧ c4 = .int .i64 l ∧ c5 = .int .i64 r ∧ c6 = .int .i64 s := by
  obtain ⟨xs, n, _, hx, hl, hxl, hfi⟩ := DataW.trod_struct Try.underlying25 h
  have h0 := hfi 0 _ rfl
  have h1 := hfi 1 _ rfl
  have h2 := hfi 2 _ rfl
  have h3 := hfi 3 _ rfl
  match xs, hxl with
  | [y0, y1, y2, y3], _ =>
    have k0 : DataW.trod enc Try.prog W 0 (fun _ => true) true n 23 [c0, c1, c2, c3] = some y0 := by simpa [cellsFourU] using h0
    obtain ⟨z1, e1, _⟩ := DataW.trod_int Try.underlying3 (show DataW.trod enc Try.prog W 0 (fun _ => true) true n 3 [c4] = some y1 from by simpa [cellsIntU] using h1)
    obtain ⟨z2, e2, _⟩ := DataW.trod_int Try.underlying3 (show DataW.trod enc Try.prog W 0 (fun _ => true) true n 3 [c5] = some y2 from by simpa [cellsIntU] using h2)
    obtain ⟨z3, e3, _⟩ := DataW.trod_int Try.underlying3 (show DataW.trod enc Try.prog W 0 (fun _ => true) true n 3 [c6] = some y3 from by simpa [cellsIntU] using h3)
    obtain ⟨ys, m, _, hy, hyl, hyn, hel⟩ := DataW.trod_array Try.underlying23 k0
    simp only [cellsIntU] at hel
    have g0 := hel 0 (by decide)
    have g1 := hel 1 (by decide)
    have g2 := hel 2 (by decide)
    have g3 := hel 3 (by decide)
    match ys, hyn with
    | [u0, u1, u2, u3], _ =>
      obtain ⟨a0, b0, _⟩ := DataW.trod_int Try.underlying3 (show DataW.trod enc Try.prog W 0 (fun _ => true) true m 3 [c0] = some u0 from by simpa using g0)
      obtain ⟨a1, b1, _⟩ := DataW.trod_int Try.underlying3 (show DataW.trod enc Try.prog W 0 (fun _ => true) true m 3 [c1] = some u1 from by simpa using g1)
      obtain ⟨a2, b2, _⟩ := DataW.trod_int Try.underlying3 (show DataW.trod enc Try.prog W 0 (fun _ => true) true m 3 [c2] = some u2 from by simpa using g2)
      obtain ⟨a3, b3, _⟩ := DataW.trod_int Try.underlying3 (show DataW.trod enc Try.prog W 0 (fun _ => true) true m 3 [c3] = some u3 from by simpa using g3)
      simp at e1 e2 e3 b0 b1 b2 b3
      exact ⟨_, _, _, _, _, _, _, b0, b1, b2, b3, e1, e2, e3⟩
end
set_option maxRecDepth 100000 in
theorem curs_in {H : Type} {enc : TypeId × Value → H} {W : World} {base : Nat} {v : Value} {d : DataW H} {p : List MemPlace} (hv : Value.okWide Try.prog W .any base 27 v)
    (h : DataW.Trod enc Try.prog W 0 (fun _ => true) true 27 v d p) : ∃ (r c : Int) (wp : Bool) (K : CK), v = uV r c wp K := by
  obtain ⟨⟨cs⟩, rfl, hsz⟩ := okWide_struct Try.underlying27 hv
  rw [cellsCurR] at hsz
  obtain ⟨fuel, hf⟩ := h
  obtain ⟨xs, n, _, hx, hl, hxl, hfi⟩ := DataW.trod_struct Try.underlying27 hf
  have h0 := hfi 0 _ rfl
  have h1 := hfi 1 _ rfl
  have h2 := hfi 2 _ rfl
  have h3 := hfi 3 _ rfl
  have h4 := hfi 4 _ rfl
  have h5 := hfi 5 _ rfl
  have h6 := hfi 6 _ rfl
  match cs, hsz, xs, hxl with
  | [c0, c1, c2, c3, c4, c5, c6, c7, c8, c9, c10, c11, c12], _, [y0, y1, y2, y3, y4, y5, y6], _ =>
    obtain ⟨z0, e0, _⟩ := DataW.trod_int Try.underlying3 (show DataW.trod enc Try.prog W 0 (fun _ => true) true n 3 [c0] = some y0 from by simpa [cellsIntU, Value.cells] using h0)
    obtain ⟨z1, e1, _⟩ := DataW.trod_int Try.underlying3 (show DataW.trod enc Try.prog W 0 (fun _ => true) true n 3 [c1] = some y1 from by simpa [cellsIntU, Value.cells] using h1)
    obtain ⟨z2, e2, _⟩ := DataW.trod_int Try.underlying22 (show DataW.trod enc Try.prog W 0 (fun _ => true) true n 22 [c2] = some y2 from by simpa [cellsRendU, Value.cells] using h2)
    obtain ⟨z3, e3, _⟩ := DataW.trod_bool Try.underlying4 (show DataW.trod enc Try.prog W 0 (fun _ => true) true n 4 [c3] = some y3 from by simpa [cellsBoolU, Value.cells] using h3)
    obtain ⟨z4, e4, _⟩ := DataW.trod_bool Try.underlying4 (show DataW.trod enc Try.prog W 0 (fun _ => true) true n 4 [c4] = some y4 from by simpa [cellsBoolU, Value.cells] using h4)
    obtain ⟨z5, e5, _⟩ := DataW.trod_bool Try.underlying4 (show DataW.trod enc Try.prog W 0 (fun _ => true) true n 4 [c5] = some y5 from by simpa [cellsBoolU, Value.cells] using h5)
    obtain ⟨a, b, c, d', l, r, s, k0, k1, k2, k3, k4, k5, k6⟩ := st_cells (show DataW.trod enc Try.prog W 0 (fun _ => true) true n 25 [c6, c7, c8, c9, c10, c11, c12] = some y6 from by simpa [cellsStU, Value.cells] using h6)
    simp at e0 e1 e2 e3 e4 e5
    subst e0 e1 e2 e3 e4 e5 k0 k1 k2 k3 k4 k5 k6
    exact ⟨z0, z1, z4, ⟨z2, z3, z5, a, b, c, d', l, r, s⟩, rfl⟩
theorem fram_in {H : Type} {enc : TypeId × Value → H} {W : World} {base : Nat} {v : Value} {d : DataW H} {p : List MemPlace} (hv : Value.okWide Try.prog W .any base 31 v)
    (h : DataW.Trod enc Try.prog W 0 (fun _ => true) true 31 v d p) : ∃ f : Fr, v = fV f := by
  obtain ⟨⟨cs⟩, rfl, hsz⟩ := okWide_struct Try.underlying31 hv
  rw [cellsFrR] at hsz
  obtain ⟨fuel, hf⟩ := h
  obtain ⟨xs, n, _, hx, hl, hxl, hfi⟩ := DataW.trod_struct Try.underlying31 hf
  have h0 := hfi 0 _ rfl
  have h1 := hfi 1 _ rfl
  match cs, hsz, xs, hxl with
  | [c0, c1, c2, c3, c4, c5, c6, c7], _, [y0, y1], _ =>
    obtain ⟨a, b, c, d', k0, k1, k2, k3⟩ := box_cells (show DataW.trod enc Try.prog W 0 (fun _ => true) true n 29 [c0, c1, c2, c3] = some y0 from by simpa [cellsBoxU, Value.cells] using h0)
    obtain ⟨a', b', c', d'', g0, g1, g2, g3⟩ := box_cells (show DataW.trod enc Try.prog W 0 (fun _ => true) true n 29 [c4, c5, c6, c7] = some y1 from by simpa [cellsBoxU, Value.cells] using h1)
    subst k0 k1 k2 k3 g0 g1 g2 g3
    exact ⟨⟨a, b, c, d', a', b', c', d''⟩, rfl⟩
theorem cellsPosU : Try.prog.cellsOf 41 = 2 := by kernel_rfl
open Go.Joins in
theorem pos_inU {H : Type} {enc : TypeId × Value → H} {W : World} {base : Nat} {v : Value} {d : DataW H} {p : List MemPlace} (hv : Value.okWide Try.prog W .any base 41 v)
    (h : DataW.Trod enc Try.prog W 0 (fun _ => true) true 41 v d p) : ∃ r c : Int, v = pV r c := by
  obtain ⟨c0, c1, y0, y1, m, rfl, _, _, h0, h1⟩ := open_agg2 Try.underlying41 (by kernel_rfl) cellsPosU hv h
  obtain ⟨g0, e0, _⟩ := DataW.trod_int Try.underlying3 h0
  obtain ⟨g1, e1, _⟩ := DataW.trod_int Try.underlying3 h1
  simp at e0 e1
  subst e0 e1
  exact ⟨g0, g1, rfl⟩
section
variable {H : Type} {enc : TypeId × Value → H} {P : Program} {w : World} {base : Nat} {spare : Nat → Bool} {held : Bool}
theorem open_slice_fields {t e : TypeId} {fs : Array Field} {fuel : Nat} {cs : List Value} {x : DataW H × List MemPlace} (ht : P.underlying t = some (.slice e)) (he : P.underlying e = some (.struct fs))
    (hone : oneCellFields P fs = true) (hC : P.cellsOf e = fs.size) (h : DataW.trod enc P w base spare held fuel t cs = some x) :
    (cs = [.slice none 0 0] ∧ x = (.nil, [])) ∨
    ∃ (a : Addr) (len cap m : Nat) (D : Nat → DataW H) (Pl : Nat → List MemPlace), cs = [.slice (some a) len cap] ∧ base ≤ a.block ∧ len ≤ cap ∧ cap ≤ maxLen ∧ m = (if spare a.block then cap else len) ∧
      x = (.slice ((List.range len).map D) ((List.range (m - len)).map fun j => D (len + j)), MemPlace.row a (m * fs.size) ++ (List.range m).flatMap Pl) ∧
      ∀ i, i < m → ∃ (ys : List (DataW H × List MemPlace)) (n : Nat), D i = .agg (ys.map (·.1)) ∧ Pl i = ys.flatMap (·.2) ∧ ys.length = fs.size ∧
        ∀ (j : Nat) (f : Field), fs[j]? = some f → ∃ (v : Value) (y : DataW H × List MemPlace), w.cell? (a.add (i * fs.size + j)) = some v ∧ ys[j]? = some y ∧ DataW.trod enc P w base spare held n f.type [v] = some y := by
  rcases open_slice ht h with h0 | ⟨a, len, cap, m, n, D, Pl, hcs, hb, hl, hm, hmm, hx, hi⟩
  · exact .inl h0
  · refine .inr ⟨a, len, cap, m, D, Pl, hcs, hb, hl, hm, hmm, by rw [hC] at hx; exact hx, fun i him => ?_⟩
    obtain ⟨cs', hc, ht'⟩ := hi i him
    rw [hC] at hc
    obtain ⟨ys, n', hn', hy, hlen, hyl, hf⟩ := DataW.trod_struct he ht'
    obtain ⟨_, hcl, hat⟩ := World.cells?_some hc
    simp only [Prod.mk.injEq] at hy
    refine ⟨ys, n', hy.1, hy.2, hyl, fun j f hj => ?_⟩
    obtain ⟨ho, hk⟩ := hone_of hone j f hj
    have hjl : j < fs.size := (Array.getElem?_eq_some_iff.1 hj).1
    have hcell := hat j hjl
    have hv : cs'[j]? = some (cs'[j]'(by omega)) := List.getElem?_eq_getElem (by omega)
    have h1 := hf j f hj
    rw [ho, hk] at h1
    have hone' : (cs'.drop j).take 1 = [cs'[j]'(by omega)] := by
      rw [List.drop_eq_getElem_cons (by omega)]
      rfl
    rw [hone'] at h1
    have hys : ys[j]? = some (ys[j]'(by omega)) := List.getElem?_eq_getElem (by omega)
    refine ⟨_, _, ?_, hys, h1.trans hys⟩
    rw [← Go.Deep.add_add, hcell, hv]
end
theorem cellsAc3 : Try.prog.cellsOf 51 = 3 := by kernel_rfl
theorem rac_of {W : World} {a : Addr} {f : Nat → Ac3} {len : Nat} (hb : 0 < len → a.block < W.heap.size)
    (h : ∀ i, i < len → W.cell? (a.add (i * 3)) = some (.int .i64 (f i).k) ∧ W.cell? (a.add (i * 3 + 1)) = some (.int .i64 (f i).n) ∧ W.cell? (a.add (i * 3 + 2)) = some (.int .i64 (f i).m)) :
    RAc W (some a) ((List.range len).map f) := by
  refine ⟨ac_len _, fun hn => ⟨a, rfl, hb (by simpa using hn), fun j u hu => ?_⟩⟩
  have hj : j < len * 3 := by
    rcases Nat.lt_or_ge j (len * 3) with h' | h'
    · exact h'
    · rw [List.getElem?_eq_none (by rw [ac_len]; simpa using h')] at hu; cases hu
  have hk : j / 3 < ((List.range len).map f).length := by simp; omega
  obtain ⟨h1, h2, h3⟩ := ac_at _ (j / 3) hk
  obtain ⟨g1, g2, g3⟩ := h (j / 3) (by omega)
  have e : ((List.range len).map f)[j / 3] = f (j / 3) := by simp
  rw [e] at h1 h2 h3
  rcases (by omega : j = j / 3 * 3 ∨ j = j / 3 * 3 + 1 ∨ j = j / 3 * 3 + 2) with hjj | hjj | hjj
  · rw [hjj] at hu ⊢; rw [g1, ← h1, hu]
  · rw [hjj] at hu ⊢; rw [g2, ← h2, hu]
  · rw [hjj] at hu ⊢; rw [g3, ← h3, hu]
theorem acts3_in {H : Type} {enc : TypeId × Value → H} {W : World} {b : Option Addr} {len cap : Nat} {d : DataW H} {p : List MemPlace}
    (h : DataW.Trod enc Try.prog W 0 (fun _ => true) true 32 (.slice b len cap) d p) :
    ∃ l : List Ac3, len = l.length ∧ l.length ≤ maxLen ∧ (∀ a ∈ l, a.ok) ∧ RAc W b l := by
  obtain ⟨fuel, hf⟩ := h
  rcases open_slice_fields Try.underlying32 Try.underlying51 (by kernel_rfl) cellsAc3 hf with ⟨hcs, _⟩ | ⟨a, len', cap', m, D, Pl, hcs, _, hl, hm, hmm, _, hi⟩
  · simp [Value.cells] at hcs
    obtain ⟨rfl, rfl, rfl⟩ := hcs
    exact ⟨[], rfl, by simp, by simp, ⟨rfl, fun h => absurd h (by simp)⟩⟩
  · simp [Value.cells] at hcs
    obtain ⟨rfl, rfl, rfl⟩ := hcs
    simp at hmm
    subst hmm
    have each : ∀ i, ∃ c : Ac3, c.ok ∧ (i < len → (W.cell? (a.add (i * 3)) = some (.int .i64 c.k) ∧ W.cell? (a.add (i * 3 + 1)) = some (.int .i64 c.n) ∧ W.cell? (a.add (i * 3 + 2)) = some (.int .i64 c.m))) := by
      intro i
      by_cases hlt : i < len
      · obtain ⟨ys, n, _, _, _, hfs⟩ := hi i (by omega)
        obtain ⟨v0, y0, c0, _, t0⟩ := hfs 0 _ rfl
        obtain ⟨v1, y1, c1, _, t1⟩ := hfs 1 _ rfl
        obtain ⟨v2, y2, c2, _, t2⟩ := hfs 2 _ rfl
        obtain ⟨g, e0, _, _⟩ := DataW.trod_int Try.underlying3 t0
        obtain ⟨r, e1, _, wr⟩ := DataW.trod_int Try.underlying3 t1
        obtain ⟨k, e2, _, _⟩ := DataW.trod_int Try.underlying3 t2
        simp at e0 e1 e2
        subst e0 e1 e2
        exact ⟨⟨g, r, k⟩, bounds_i64 wr, fun _ => ⟨c0, c1, c2⟩⟩
      · exact ⟨⟨0, 0, 0⟩, ⟨by decide, by decide⟩, fun h => absurd h hlt⟩
    obtain ⟨f, hF⟩ := Classical.axiomOfChoice each
    refine ⟨(List.range len).map f, by simp, by simp; omega, fun c hc => ?_, rac_of (fun hn => ?_) (fun i hlt => (hF i).2 hlt)⟩
    · obtain ⟨i, _, rfl⟩ := List.mem_map.1 hc
      exact (hF i).1
    have := cell_lt ((hF 0).2 hn).1
    rwa [block_of_add] at this
end Go.Proofs.Ytilfhilebdkmkaa

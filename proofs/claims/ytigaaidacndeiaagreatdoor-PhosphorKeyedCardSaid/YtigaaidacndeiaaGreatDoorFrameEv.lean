/-
  A slice of strokes that came in, opened.
-/
import Derived.Test.YtigaaidacndeiaaGreatDoorFrameP
import Derived.Test.YtigaaidacndeiaaGreatDoorKeyQ
import Derived.Deep.Slices
import Derived.Deep.Fields
import Derived.ChangeSame
import Derived.Lib.SmallJoins
namespace Go.Proofs.YtigaaidacndeiaaGreatDoor
open Go Go.RowKit Go.ChangeShapes Go.WideShapes Go.Deep
set_option maxRecDepth 100000

section
variable {H : Type} {enc : TypeId × Value → H} {P : Program} {w : World} {base : Nat} {spare : Nat → Bool} {held : Bool}
theorem open_slice_fields {t e : TypeId} {fs : Array Field} {fuel : Nat} {cs : List Value} {x : DataW H × List MemPlace} (ht : P.underlying t = some (.slice e)) (he : P.underlying e = some (.struct fs))
    (hone : oneCellFields P fs = true) (hC : P.cellsOf e = fs.size) (h : DataW.trod enc P w base spare held fuel t cs = some x) :
    (cs = [.slice none 0 0] ∧ x = (.nil, [])) ∨
    ∃ (a : Addr) (len cap m : Nat) (D : Nat → DataW H) (Pl : Nat → List MemPlace), cs = [.slice (some a) len cap] ∧ base ≤ a.block ∧ len ≤ cap ∧ cap ≤ maxLen ∧ m = (if spare a.block then cap else len) ∧
      x = (.slice ((List.range len).map D) ((List.range (m - len)).map fun j => D (len + j)), MemPlace.row a (m * fs.size) ++ (List.range m).flatMap Pl) ∧
      ∀ i, i < m → ∃ (ys : List (DataW H × List MemPlace)) (n : Nat), D i = .agg (ys.map (·.1)) ∧ Pl i = ys.flatMap (·.2) ∧ ys.length = fs.size ∧
        ∀ (j : Nat) (f : Field), fs[j]? = some f → ∃ (v : Value) (y : DataW H × List MemPlace), w.cell? (a.add (i * fs.size + j)) = some v ∧ ys[j]? = some y ∧ DataW.trod enc P w base spare held n f.type [v] = some y := by
  rcases open_slice ht h with h0 | ⟨a, len, cap, m, n, D, Pl, hcs, hb, hl, hm, hmm, hx, hi⟩
  · exact .inl h0
  · refine .inr ⟨a, len, cap, m, D, Pl, hcs, hb, hl, hm, hmm, by rw [hC] at hx; exact hx, fun i him => ?_⟩
    obtain ⟨cs', hc, ht'⟩ := hi i him
    rw [hC] at hc
    obtain ⟨ys, n', hn', hy, hlen, hyl, hf⟩ := DataW.trod_struct he ht'
    obtain ⟨_, hcl, hat⟩ := World.cells?_some hc
    simp only [Prod.mk.injEq] at hy
    refine ⟨ys, n', hy.1, hy.2, hyl, fun j f hj => ?_⟩
    obtain ⟨ho, hk⟩ := hone_of hone j f hj
    have hjl : j < fs.size := (Array.getElem?_eq_some_iff.1 hj).1
    have hcell := hat j hjl
    have hv : cs'[j]? = some (cs'[j]'(by omega)) := List.getElem?_eq_getElem (by omega)
    have h1 := hf j f hj
    rw [ho, hk] at h1
    have hone' : (cs'.drop j).take 1 = [cs'[j]'(by omega)] := by
      rw [List.drop_eq_getElem_cons (by omega)]
      rfl
    rw [hone'] at h1
    have hys : ys[j]? = some (ys[j]'(by omega)) := List.getElem?_eq_getElem (by omega)
    refine ⟨_, _, ?_, hys, h1.trans hys⟩
    rw [← Go.Deep.add_add, hcell, hv]
end
theorem cellsEv : Tryz.prog.cellsOf 38 = 4 := by kernel_rfl
theorem rev_of {W : World} {a : Addr} {f : Nat → Ev4} {len : Nat} (hb : 0 < len → a.block < W.heap.size)
    (h : ∀ i, i < len → W.cell? (a.add (i * 4)) = some (.int .i64 (f i).k) ∧ W.cell? (a.add (i * 4 + 1)) = some (.int .u8 ((f i).c : Int)) ∧ W.cell? (a.add (i * 4 + 2)) = some (.bool (f i).sh) ∧ W.cell? (a.add (i * 4 + 3)) = some (.bool (f i).ct)) :
    REvs W (some a) ((List.range len).map f) := by
  refine ⟨ev_len _, fun hn => ⟨a, rfl, hb (by simpa using hn), fun j u hu => ?_⟩⟩
  have hj : j < len * 4 := by
    rcases Nat.lt_or_ge j (len * 4) with h' | h'
    · exact h'
    · rw [List.getElem?_eq_none (by rw [ev_len]; simpa using h')] at hu; cases hu
  have hk : j / 4 < ((List.range len).map f).length := by simp; omega
  have q := ev_at _ (j / 4) hk
  obtain ⟨g1, g2, g3, g4⟩ := h (j / 4) (by omega)
  have e : ((List.range len).map f)[j / 4] = f (j / 4) := by simp
  rw [e] at q
  rcases (by omega : j = j / 4 * 4 + 0 ∨ j = j / 4 * 4 + 1 ∨ j = j / 4 * 4 + 2 ∨ j = j / 4 * 4 + 3) with hjj | hjj | hjj | hjj
  · have z := q 0 _ rfl; rw [hjj] at hu ⊢; rw [z] at hu; rw [← hu]; exact g1
  · have z := q 1 _ rfl; rw [hjj] at hu ⊢; rw [z] at hu; rw [← hu]; exact g2
  · have z := q 2 _ rfl; rw [hjj] at hu ⊢; rw [z] at hu; rw [← hu]; exact g3
  · have z := q 3 _ rfl; rw [hjj] at hu ⊢; rw [z] at hu; rw [← hu]; exact g4
theorem evs_in {H : Type} {enc : TypeId × Value → H} {W : World} {b : Option Addr} {len cap : Nat} {d : DataW H} {p : List MemPlace}
    (h : DataW.Trod enc Tryz.prog W 0 (fun _ => true) true 43 (.slice b len cap) d p) :
    ∃ l : List Ev4, len = l.length ∧ l.length ≤ maxLen ∧ (∀ e ∈ l, e.c < 256) ∧ REvs W b l := by
  obtain ⟨fuel, hf⟩ := h
  rcases open_slice_fields Tryz.underlying43 Tryz.underlying38 (by kernel_rfl) cellsEv hf with ⟨hcs, _⟩ | ⟨a, len', cap', m, D, Pl, hcs, _, hl, hm, hmm, _, hi⟩
  · simp [Value.cells] at hcs
    obtain ⟨rfl, rfl, rfl⟩ := hcs
    exact ⟨[], rfl, by simp, by simp, ⟨rfl, fun h => absurd h (by simp)⟩⟩
  · simp [Value.cells] at hcs
    obtain ⟨rfl, rfl, rfl⟩ := hcs
    simp at hmm
    subst hmm
    have each : ∀ i, ∃ c : Ev4, c.c < 256 ∧ (i < len → (W.cell? (a.add (i * 4)) = some (.int .i64 c.k) ∧ W.cell? (a.add (i * 4 + 1)) = some (.int .u8 (c.c : Int)) ∧ W.cell? (a.add (i * 4 + 2)) = some (.bool c.sh) ∧ W.cell? (a.add (i * 4 + 3)) = some (.bool c.ct))) := by
      intro i
      by_cases hlt : i < len
      · obtain ⟨ys, n, _, _, _, hfs⟩ := hi i (by omega)
        obtain ⟨v0, y0, c0, _, t0⟩ := hfs 0 _ rfl
        obtain ⟨v1, y1, c1, _, t1⟩ := hfs 1 _ rfl
        obtain ⟨v2, y2, c2, _, t2⟩ := hfs 2 _ rfl
        obtain ⟨v3, y3, c3, _, t3⟩ := hfs 3 _ rfl
        obtain ⟨g, e0, _, _⟩ := DataW.trod_int Tryz.underlying3 t0
        obtain ⟨z, e1, _, wz⟩ := DataW.trod_int Tryz.underlying5 t1
        obtain ⟨q, e2, _⟩ := DataW.trod_bool Tryz.underlying4 t2
        obtain ⟨r, e3, _⟩ := DataW.trod_bool Tryz.underlying4 t3
        have bz := bounds_u8 wz
        simp at e0 e1 e2 e3
        subst e0 e1 e2 e3
        refine ⟨⟨g, z.toNat, q, r⟩, by show z.toNat < 256; omega, fun _ => ⟨c0, ?_, c2, c3⟩⟩
        show _ = some (Value.int .u8 ((z.toNat : Nat) : Int))
        rw [Int.toNat_of_nonneg (by omega)]
        exact c1
      · exact ⟨⟨0, 0, false, false⟩, by decide, fun h => absurd h hlt⟩
    obtain ⟨f, hF⟩ := Classical.axiomOfChoice each
    refine ⟨(List.range len).map f, by simp, by simp; omega, fun c hc => ?_, rev_of (fun hn => ?_) (fun i hlt => (hF i).2 hlt)⟩
    · obtain ⟨i, _, rfl⟩ := List.mem_map.1 hc
      exact (hF i).1
    · have := cell_lt ((hF 0).2 hn).1
      rwa [block_of_add] at this
end Go.Proofs.YtigaaidacndeiaaGreatDoor

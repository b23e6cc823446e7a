/-
  What every statement's last step shares: the row's list gives the table's cells; a call that leaves old memory alone meets the row's end.
-/
import Derived.Test.YtdjbfnhgendacaaDoorRows
import Derived.Test.YtdjbfnhgendacaaDoorKit2
import Derived.ProofKit
import Derived.OpenShut
import Derived.Deep.DeepHandedRow
import Derived.Lib.LaidTab
import Derived.LaidMore
import Derived.Deep.Slices
import Derived.Deep.Fields
import Derived.ChangeSame
import Derived.Lib.SmallJoins
namespace Go.Proofs.YtdjbfnhgendacaaDoor
open Go.RowKit Go.ChangeShapes Go.WideShapes

theorem own : ownKnob Tryd.prog.godebug = none := by kernel_rfl
theorem gTab : Tryd.prog.globalNamed "phosphor/rend.parts" = some 0 := by kernel_rfl
theorem tTab : (Tryd.prog.globals[0]?).map (·.type) = some 71 := by kernel_rfl
theorem cellsPart : Tryd.prog.cellsOf 70 = 5 := by kernel_rfl
theorem cellsTab : Tryd.prog.cellsOf 71 = 25 := by kernel_rfl
theorem cellsU8 : Tryd.prog.cellsOf 5 = 1 := by kernel_rfl
theorem cellsRend : Tryd.prog.cellsOf 22 = 1 := by kernel_rfl
theorem cellsInt : Tryd.prog.cellsOf 3 = 1 := by kernel_rfl

section
variable {H : Type} {enc : TypeId × Value → H} {w : World} {base : Nat} {spare : Nat → Bool} {held : Bool}
theorem lit_eq {k : IntKind} {t : TypeId} {fuel : Nat} {c : Value} {y : DataW H × List MemPlace} {n : Int} (ht : Tryd.prog.underlying t = some (.int k)) (h : DataW.trod enc Tryd.prog w base spare held fuel t [c] = some y) (hy : y.1 = .lit (.int k n)) : c = .int k n := by
  obtain ⟨m, e1, e2, _⟩ := DataW.trod_int ht h
  rw [e2] at hy
  have hm : m = n := by simpa using hy
  subst hm
  simpa using e1
theorem part_cells {fuel : Nat} {cs : List Value} {x : DataW H × List MemPlace} {a b c d e : Int} (h : DataW.trod enc Tryd.prog w base spare held fuel 70 cs = some x)
    (hx : x.1 = .agg [.lit (.int .u8 a), .lit (.int .i64 b), .lit (.int .i64 c), .lit (.int .u8 d), .lit (.int .i64 e)]) : cs = [.int .u8 a, .int .i64 b, .int .i64 c, .int .u8 d, .int .i64 e] := by
  obtain ⟨xs, n, _, rfl, hl, hxl, hf⟩ := DataW.trod_struct Tryd.underlying70 h
  rw [cellsPart] at hl
  have h0 := hf 0 _ rfl
  have h1 := hf 1 _ rfl
  have h2 := hf 2 _ rfl
  have h3 := hf 3 _ rfl
  have h4 := hf 4 _ rfl
  match cs, hl, xs, hxl with
  | [c0, c1, c2, c3, c4], _, [y0, y1, y2, y3, y4], _ =>
    simp only [List.map_cons, List.map_nil, DataW.agg.injEq, List.cons.injEq, and_true] at hx
    obtain ⟨e0, e1, e2, e3, e4⟩ := hx
    have r0 : c0 = .int .u8 a := lit_eq (enc := enc) Tryd.underlying22 (by simpa [cellsRend] using h0) e0
    have r1 : c1 = .int .i64 b := lit_eq (enc := enc) Tryd.underlying3 (by simpa [cellsInt] using h1) e1
    have r2 : c2 = .int .i64 c := lit_eq (enc := enc) Tryd.underlying3 (by simpa [cellsInt] using h2) e2
    have r3 : c3 = .int .u8 d := lit_eq (enc := enc) Tryd.underlying5 (by simpa [cellsU8] using h3) e3
    have r4 : c4 = .int .i64 e := lit_eq (enc := enc) Tryd.underlying3 (by simpa [cellsInt] using h4) e4
    rw [r0, r1, r2, r3, r4]
end

/-- What the row's list gives. -/
theorem tab_of {W : World} (h : laidMetH Tryd.prog [("phosphor/rend.parts", Rows.laid_phosphor_rend_parts)] W) : Tab W := by
  rw [MakeChecks.laidMetH_plain _ _ _ (by kernel_rfl)] at h
  obtain ⟨ps, ⟨g0, t0, cs0, f0, p0, q0, hg0, ht0, hv0, hd0, _, _⟩, _, _⟩ := h
  obtain rfl := Option.some.inj (gTab.symm.trans hg0)
  obtain rfl := Option.some.inj (tTab.symm.trans ht0)
  obtain ⟨xs, m, _, hx, hlen, hn, hel⟩ := DataW.trod_array Tryd.underlying71 hd0
  rw [cellsTab] at hlen
  simp only [cellsPart] at hel
  have i0 := hel 0 (by decide)
  have i1 := hel 1 (by decide)
  have i2 := hel 2 (by decide)
  have i3 := hel 3 (by decide)
  have i4 := hel 4 (by decide)
  have hcs : cs0.toList = tabCells := by
    match xs, hn with
    | [y0, y1, y2, y3, y4], _ =>
      simp only [Prod.mk.injEq, Rows.laid_phosphor_rend_parts, DataW.agg.injEq, List.map_cons, List.map_nil, List.cons.injEq, and_true] at hx
      obtain ⟨⟨e0, e1, e2, e3, e4⟩, _⟩ := hx
      have p0 := part_cells i0 e0.symm
      have p1 := part_cells i1 e1.symm
      have p2 := part_cells i2 e2.symm
      have p3 := part_cells i3 e3.symm
      have p4 := part_cells i4 e4.symm
      have key : ∀ l : List Value, l.length = 25 → l = (l.drop (0 * 5)).take 5 ++ ((l.drop (1 * 5)).take 5 ++ ((l.drop (2 * 5)).take 5 ++ ((l.drop (3 * 5)).take 5 ++ (l.drop (4 * 5)).take 5))) := by
        intro l hl
        match l, hl with
        | [_, _, _, _, _, _, _, _, _, _, _, _, _, _, _, _, _, _, _, _, _, _, _, _, _], _ => rfl
      rw [key _ hlen, p0, p1, p2, p3, p4]
      rfl
  refine ⟨?_, fun j v hj => ?_⟩
  · have hc := World.var?_cell hg0 hv0 0
    have e : cs0[0]? = some (.int .u8 1) := by
      rw [← Array.getElem?_toList, hcs]; rfl
    rw [e] at hc
    rcases Nat.eq_zero_or_pos W.heap.size with h0 | h0
    · exfalso
      have : W.heap[0]? = none := Array.getElem?_eq_none (by omega)
      simp [World.cell?, this] at hc
    · exact h0
  · have hc := World.var?_cell hg0 hv0 j
    rw [hc, ← Array.getElem?_toList, hcs]
    exact hj

section
variable {H : Type} {enc : TypeId × Value → H}
/-- ARGS, all of them: below the heap's old size nothing has turned, so each reads as it did. -/
theorem trodAll_below {P : Program} (hl : laidOutB P = true) {W W' : World} (hb : Below W.heap.size W W') (ts : List TypeId) : ∀ (vs : List Value) (ds : List (DataW H)) (ps : List MemPlace),
    (ts.all fun t => P.readableRec t && decide (t < P.types.size)) = true → DataW.TrodAll enc P W 0 (fun _ => true) true ts vs ds ps → (∀ x ∈ ps, x.block < W.heap.size) →
    DataW.TrodAll enc P W' 0 (fun b => decide (b < W.heap.size)) true ts vs ds ps := by
  induction ts with
  | nil =>
    intro vs ds ps _ h _
    obtain ⟨rfl, rfl, rfl⟩ := trodAll_nil h
    exact trodAll_mk0
  | cons t ts ih =>
    intro vs ds ps hr h hlt
    obtain ⟨v, vs', d, ds', p, q, rfl, rfl, rfl, h1, h2⟩ := trodAll_cons h
    rw [List.all_cons, Bool.and_eq_true, Bool.and_eq_true] at hr
    exact trodAll_cons_mk (Below.trod hl hr.1.1 (of_decide_eq_true hr.1.2) h1 hb (fun x hx => hlt x (List.mem_append_left _ hx)))
      (ih vs' ds' q hr.2 h2 (fun x hx => hlt x (List.mem_append_right _ hx)))
/-- A law's end: it answers true, and nothing that was there has turned. -/
theorem post_law {f : Func} {s : ChangeSpec} {W W' : World} {args : Array Value} {ds : List (DataW H)} {before : List MemPlace} (hl : laidOutB Tryd.prog = true)
    (hr : (f.params.toList.all fun t => Tryd.prog.readableRec t && decide (t < Tryd.prog.types.size)) = true) (hres : f.resultTypes = #[4])
    (hv : s.vars = []) (hW : DataW.Whole enc Tryd.prog f.params.toList s.vars false W args.toList ds [] before) (hfn : s.fn H (ds ++ []) = { results := [.lit (.bool true)], args := ds })
    (hb : Below W.heap.size W W') : s.post enc Tryd.prog f false true false false W args (.bool true) W' := by
  have hW' := hW
  obtain ⟨p, q, hA, hV, hbe, hfz, hnd⟩ := hW
  rw [hv] at hV
  have hq : q = [] := by
    have := hV
    simpa [DataW.TrodVars] using this
  subst hq
  have hlt : ∀ x ∈ before, x.block < W.heap.size := fun x hx => hW'.lt x hx
  refine ⟨ds, [], before, [], p, [], hW', ?_, ?_, ?_, World.keptBut_mono (fun p hp => ?_) (hb.frame (· ∈ before)), fun h => by cases h⟩
  · rw [hfn, hres]
    exact trodAll_cons_mk (shut_bool Tryd.underlying4 true) trodAll_mk0
  · rw [hfn]
    exact trodAll_below hl hb _ _ _ _ hr hA (fun x hx => hlt x (by rw [hbe]; exact List.mem_append_left _ hx))
  · rw [hfn, hv]
    rfl
  · refine ⟨hp, .inr (.inl ?_)⟩
    rw [hbe] at hp
    simpa using hp
end
theorem laidOut : laidOutB Tryd.prog = true := by kernel_rfl

/-- A world for the witness: the settled one, the table holding what its initialiser lays. -/
noncomputable def laidWorld (os : Os) : World :=
  { World.holding Tryd.prog os ⟨#[], #[], []⟩ with heap := (World.holding Tryd.prog os ⟨#[], #[], []⟩).heap.modify 0 fun
      | .cells _ t frozen => .cells tabCells.toArray t frozen
      | o => o }

/-- An int slice that came in reads as its numbers. -/
theorem rints_in {W : World} {a : Addr} {len : Nat} {zs : List Int} (hz : len ≤ zs.length) (hb : a.block < W.heap.size) (hc : ∀ i, i < zs.length → W.cell? (a.add i) = some (.int .i64 (zs.getD i 0))) : RInts W (some a) (zs.take len) := by
  refine ⟨by simp, fun _ => ⟨a, rfl, hb, fun j u hu => ?_⟩⟩
  have hj : j < len := by
    rcases Nat.lt_or_ge j len with h | h
    · exact h
    · rw [List.getElem?_eq_none (by simp; omega)] at hu; cases hu
  rw [hc j (by omega), ← hu]
  simp [hj, List.getD, List.getElem?_eq_getElem (show j < zs.length by omega)]
end Go.Proofs.YtdjbfnhgendacaaDoor

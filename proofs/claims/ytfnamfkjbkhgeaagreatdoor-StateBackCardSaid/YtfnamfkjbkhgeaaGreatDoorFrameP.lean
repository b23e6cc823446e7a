/-
  What every statement's last step shares: a call that leaves old memory alone meets the row's end.
  A slice of ints that came in, opened.
  The library's tables: what the row's list gives, and a world that holds them.
-/
import Derived.Test.YtfnamfkjbkhgeaaGreatDoorRows
import Derived.Test.YtfnamfkjbkhgeaaGreatDoorGen
import Derived.ProofKit
import Derived.OpenShut
import Derived.Deep.DeepHandedRow
import Derived.Lib.LaidTab
import Derived.LaidMore
import Derived.Deep.Slices
import Derived.Deep.Fields
import Derived.ChangeSame
import Derived.Lib.SmallJoins
import Derived.SizedLaws
import Derived.Test.YtfnamfkjbkhgeaaGreatDoorParP
import Derived.LaidSub
namespace Go.Proofs.YtfnamfkjbkhgeaaGreatDoor

open Go.RowKit Go.ChangeShapes Go.WideShapes

theorem own : ownKnob Tryz.prog.godebug = none := by kernel_rfl
section

variable {H : Type} {enc : TypeId × Value → H}

/-- ARGS, all of them: below the heap's old size nothing has turned, so each reads as it did. -/
theorem trodAll_below {P : Program} (hl : laidOutB P = true) {W W' : World} (hb : Below W.heap.size W W') (ts : List TypeId) : ∀ (vs : List Value) (ds : List (DataW H)) (ps : List MemPlace),
    (ts.all fun t => P.readableRec t && decide (t < P.types.size)) = true → DataW.TrodAll enc P W 0 (fun _ => true) true ts vs ds ps → (∀ x ∈ ps, x.block < W.heap.size) →
    DataW.TrodAll enc P W' 0 (fun b => decide (b < W.heap.size)) true ts vs ds ps := by
  induction ts with
  | nil =>
    intro vs ds ps _ h _
    obtain ⟨rfl, rfl, rfl⟩ := trodAll_nil h
    exact trodAll_mk0
  | cons t ts ih =>
    intro vs ds ps hr h hlt
    obtain ⟨v, vs', d, ds', p, q, rfl, rfl, rfl, h1, h2⟩ := trodAll_cons h
    rw [List.all_cons, Bool.and_eq_true, Bool.and_eq_true] at hr
    exact trodAll_cons_mk (Below.trod hl hr.1.1 (of_decide_eq_true hr.1.2) h1 hb (fun x hx => hlt x (List.mem_append_left _ hx)))
      (ih vs' ds' q hr.2 h2 (fun x hx => hlt x (List.mem_append_right _ hx)))
/-- A law's end: it answers true, and nothing that was there has turned. -/
theorem post_law {f : Func} {s : ChangeSpec} {W W' : World} {args : Array Value} {ds : List (DataW H)} {before : List MemPlace} (hl : laidOutB Tryz.prog = true)
    (hr : (f.params.toList.all fun t => Tryz.prog.readableRec t && decide (t < Tryz.prog.types.size)) = true) (hres : f.resultTypes = #[4])
    (hv : s.vars = []) (hW : DataW.Whole enc Tryz.prog f.params.toList s.vars false W args.toList ds [] before) (hfn : s.fn H (ds ++ []) = { results := [.lit (.bool true)], args := ds })
    (hb : Below W.heap.size W W') : s.post enc Tryz.prog f false true false false W args (.bool true) W' := by
  have hW' := hW
  obtain ⟨p, q, hA, hV, hbe, hfz, hnd⟩ := hW
  rw [hv] at hV
  have hq : q = [] := by
    have := hV
    simpa [DataW.TrodVars] using this
  subst hq
  have hlt : ∀ x ∈ before, x.block < W.heap.size := fun x hx => hW'.lt x hx
  refine ⟨ds, [], before, [], p, [], hW', ?_, ?_, ?_, World.keptBut_mono (fun p hp => ?_) (hb.frame (· ∈ before)), fun h => by cases h⟩
  · rw [hfn, hres]
    exact trodAll_cons_mk (shut_bool Tryz.underlying4 true) trodAll_mk0
  · rw [hfn]
    exact trodAll_below hl hb _ _ _ _ hr hA (fun x hx => hlt x (by rw [hbe]; exact List.mem_append_left _ hx))
  · rw [hfn, hv]
    rfl
  · refine ⟨hp, .inr (.inl ?_)⟩
    rw [hbe] at hp
    simpa using hp
end

theorem laidOut : laidOutB Tryz.prog = true := by kernel_rfl

theorem cell_lt {W : World} {p : Addr} {v : Value} (h : W.cell? p = some v) : p.block < W.heap.size := by
  rcases Nat.lt_or_ge p.block W.heap.size with h0 | h0
  · exact h0
  · exfalso
    have : W.heap[p.block]? = none := Array.getElem?_eq_none h0
    simp [World.cell?, this] at h
/-- An int slice that came in reads as its numbers. -/
theorem rints_in {W : World} {a : Addr} {len : Nat} {zs : List Int} (hz : len ≤ zs.length) (hb : a.block < W.heap.size) (hc : ∀ i, i < zs.length → W.cell? (a.add i) = some (.int .i64 (zs.getD i 0))) : RInts W (some a) (zs.take len) := by
  refine ⟨by simp, fun _ => ⟨a, rfl, hb, fun j u hu => ?_⟩⟩
  have hj : j < len := by
    rcases Nat.lt_or_ge j len with h | h
    · exact h
    · rw [List.getElem?_eq_none (by simp; omega)] at hu; cases hu
  rw [hc j (by omega), ← hu]
  simp [hj, List.getD, List.getElem?_eq_getElem (show j < zs.length by omega)]
end Go.Proofs.YtfnamfkjbkhgeaaGreatDoor

namespace Go.Proofs.YtfnamfkjbkhgeaaGreatDoor

open Go.RowKit Go.ChangeShapes Go.WideShapes

theorem cellsInt : Tryz.prog.cellsOf 3 = 1 := by kernel_rfl
theorem bytesInt : Tryz.prog.bytesOf 3 = 8 := by kernel_rfl
theorem ints_in {H : Type} {enc : TypeId × Value → H} {W : World} {b : Option Addr} {len cap : Nat} {d : DataW H} {p : List MemPlace}
    (h : DataW.Trod enc Tryz.prog W 0 (fun _ => true) true 64 (.slice b len cap) d p) (hreach : ∀ elems spare, d = .slice elems spare → (elems.length + spare.length) * Tryz.prog.bytesOf 3 ≤ reachBytes) :
    ∃ ns : List Int, len = ns.length ∧ ns.length ≤ 17592186043904 ∧ RInts W b ns := by
  obtain ⟨fuel, hf⟩ := h
  rcases open_ints Tryz.underlying64 Tryz.underlying3 cellsInt hf with ⟨hcs, hx⟩ | ⟨a, len', cap', zs, hcs, _, hl, hm, hz, hx, hcell, hwz⟩
  · simp [Value.cells] at hcs
    obtain ⟨rfl, rfl, rfl⟩ := hcs
    exact ⟨[], rfl, by simp, ⟨rfl, fun h => absurd h (by simp)⟩⟩
  · simp [Value.cells] at hcs
    obtain ⟨rfl, rfl, rfl⟩ := hcs
    simp at hz
    have hr := hreach _ _ (congrArg Prod.fst hx)
    rw [bytesInt] at hr
    simp [lits] at hr
    have hlz : len ≤ zs.length := by omega
    refine ⟨zs.take len, by simp [hlz], ?_, ?_⟩
    · simp only [List.length_take]
      unfold reachBytes at hr
      omega
    · rcases Nat.eq_zero_or_pos len with h0 | h0
      · subst h0
        exact ⟨by simp, fun h => absurd h (by simp)⟩
      · have hb : a.block < W.heap.size := by
          have := cell_lt (hcell 0 (by omega))
          rwa [block_of_add] at this
        exact rints_in hlz hb hcell
end Go.Proofs.YtfnamfkjbkhgeaaGreatDoor

namespace Go.Proofs.YtfnamfkjbkhgeaaGreatDoor

open Go.RowKit Go.ChangeShapes Go.WideShapes

abbrev laids : List (String × DataW Unit) := [("math/bits.deBruijn32tab", Rows.laid_math_bits_deBruijn32tab), ("math/bits.deBruijn64tab", Rows.laid_math_bits_deBruijn64tab), ("internal/strconv.uint64pow10", Rows.laid_internal_strconv_uint64pow10)]
theorem gTen : Tryz.prog.globalNamed "internal/strconv.uint64pow10" = some 3 := by kernel_rfl
theorem tTen : (Tryz.prog.globals[3]?).map (·.type) = some 215 := by kernel_rfl
theorem cellsU64 : Tryz.prog.cellsOf 200 = 1 := by kernel_rfl
theorem cellsTen : Tryz.prog.cellsOf 215 = 20 := by kernel_rfl
theorem ten_of {W : World} (h : laidMetH Tryz.prog laids W) : Ten W := by
  rw [MakeChecks.laidMetH_plain _ _ _ (by kernel_rfl)] at h
  have h2 := h.filter (fun x => x.1 == "internal/strconv.uint64pow10")
  rw [show laids.filter (fun x => x.1 == "internal/strconv.uint64pow10") = [("internal/strconv.uint64pow10", Lib.tabData .u64 Lib.pow10Tab)] from by kernel_rfl] at h2
  exact Lib.tabIs_of_head gTen tTen Tryz.underlying215 Tryz.underlying200 cellsU64 cellsTen h2
/-- The cells of a table as the row lists it. -/
def cellsLaid : DataW Unit → Array Value
  | .agg xs => (xs.map fun | .lit (.int k n) => .int k n | _ => .int .u8 0).toArray
  | _ => #[]
def lay (g : Nat) (d : DataW Unit) (h : Array Obj) : Array Obj := h.modify g fun
  | .cells _ t frozen => .cells (cellsLaid d) t frozen
  | o => o
/-- A world for the witness: the settled one, each table holding what its initialiser lays. -/
noncomputable def laidWorld (os : Os) : World :=
  { World.holding Tryz.prog os ⟨#[], #[], []⟩ with heap := lay 7 Rows.laid_math_bits_deBruijn32tab (lay 8 Rows.laid_math_bits_deBruijn64tab (lay 3 Rows.laid_internal_strconv_uint64pow10 (World.holding Tryz.prog os ⟨#[], #[], []⟩).heap)) }
end Go.Proofs.YtfnamfkjbkhgeaaGreatDoor

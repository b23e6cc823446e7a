/-
  The library's tables and its two errors, and the keys' numbers: what the row's list gives, and a world that holds them.
-/
import Derived.Test.YtlhabooeeohniaaDoorFrameB
import Derived.LaidSub
import Derived.LaidLaws
import Derived.Stop.ErrReads
import Derived.Deep.DeepLaidRun
import Derived.Deep.DeepWitnessRowRef
import Derived.Lib.LaidTab
import Derived.Test.YtlhabooeeohniaaDoorUdkE
namespace Go.Proofs.YtlhabooeeohniaaDoor
open Go Go.RowKit Go.ChangeShapes Go.WideShapes

abbrev laidU : List (String × DataW Unit) := [("math/bits.deBruijn32tab", Rows.laid_math_bits_deBruijn32tab), ("math/bits.deBruijn64tab", Rows.laid_math_bits_deBruijn64tab), ("internal/strconv.uint64pow10", Rows.laid_internal_strconv_uint64pow10), ("unicode/utf8.acceptRanges", Rows.laid_unicode_utf8_acceptRanges), ("strconv.ErrRange", Rows.laid_strconv_ErrRange), ("strconv.ErrSyntax", Rows.laid_strconv_ErrSyntax), ("phosphor/udk.numbers", Rows.laid_phosphor_udk_numbers), ("unicode/utf8.first", Rows.laid_unicode_utf8_first)]
theorem gErrS : Tryd.prog.globalNamed "strconv.ErrSyntax" = some 4 := by kernel_rfl
theorem tErrS : (Tryd.prog.globals[4]?).map (·.type) = some 79 := by kernel_rfl
theorem gErrR : Tryd.prog.globalNamed "strconv.ErrRange" = some 5 := by kernel_rfl
theorem tErrR : (Tryd.prog.globals[5]?).map (·.type) = some 79 := by kernel_rfl
theorem starES : "*" ++ "errors.errorString" = "*errors.errorString" := by decide
theorem rowES (u : TypeId) (h : Tryd.prog.typeName? 3 u = some "*errors.errorString") : u = 108 :=
  typeName_ptr_named (nm := "errors.errorString") (by rw [starES]; kernel_rfl) (by kernel_rfl) (by decide) u (by rw [starES]; exact h)
theorem cellsES : Tryd.prog.cellsOf 110 = 1 := by kernel_rfl
theorem cellsStrE : Tryd.prog.cellsOf 9 = 1 := by kernel_rfl
set_option maxRecDepth 100000 in
theorem errSU {W : World} (h : laidMetH Tryd.prog laidU W) : ErrS W := by
  rw [MakeChecks.laidMetH_plain _ _ _ (by kernel_rfl)] at h
  have h2 := h.filter (fun x => x.1 == "strconv.ErrSyntax")
  rw [show laidU.filter (fun x => x.1 == "strconv.ErrSyntax") = [("strconv.ErrSyntax", Rows.laid_strconv_ErrSyntax)] from by kernel_rfl] at h2
  obtain ⟨ps, ⟨g0, t0, cs0, f0, p0, q0, hg0, ht0, hv0, hd0, hq0, e0⟩, hnd, hrows⟩ := h2
  obtain rfl := Option.some.inj (gErrS.symm.trans hg0)
  obtain rfl := Option.some.inj (tErrS.symm.trans ht0)
  have hq0' : q0 = [] := hq0
  subst hq0'
  subst e0
  obtain ⟨l0⟩ := cs0
  have ok0 : ∀ u v, l0 = [.iface u v] → Value.okWide Tryd.prog W .any 0 u v := fun u v e => by
    subst e
    exact (hrows 4 0 (by simp [MemPlace.row])).2 u v (by simpa using World.var?_cell hg0 hv0 0)
  obtain ⟨a0, s0, rfl, _, _, _, rfl⟩ := errorString_of_trod Tryd.underlying79 rowES Tryd.underlying108 Tryd.underlying110 rfl rfl Tryd.underlying9 cellsES cellsStrE hd0 ok0
  have hc : W.cell? ⟨4, 0, none⟩ = some (.iface 108 (.pointer (some a0))) := by simpa using World.var?_cell hg0 hv0 0
  refine ⟨?_, _, _, hc⟩
  rcases Nat.lt_or_ge 4 W.heap.size with h0 | h0
  · exact h0
  · exfalso
    have : W.heap[4]? = none := Array.getElem?_eq_none h0
    simp [World.cell?, this] at hc
set_option maxRecDepth 100000 in
theorem errRU {W : World} (h : laidMetH Tryd.prog laidU W) : ErrR W := by
  rw [MakeChecks.laidMetH_plain _ _ _ (by kernel_rfl)] at h
  have h2 := h.filter (fun x => x.1 == "strconv.ErrRange")
  rw [show laidU.filter (fun x => x.1 == "strconv.ErrRange") = [("strconv.ErrRange", Rows.laid_strconv_ErrRange)] from by kernel_rfl] at h2
  obtain ⟨ps, ⟨g0, t0, cs0, f0, p0, q0, hg0, ht0, hv0, hd0, hq0, e0⟩, hnd, hrows⟩ := h2
  obtain rfl := Option.some.inj (gErrR.symm.trans hg0)
  obtain rfl := Option.some.inj (tErrR.symm.trans ht0)
  have hq0' : q0 = [] := hq0
  subst hq0'
  subst e0
  obtain ⟨l0⟩ := cs0
  have ok0 : ∀ u v, l0 = [.iface u v] → Value.okWide Tryd.prog W .any 0 u v := fun u v e => by
    subst e
    exact (hrows 5 0 (by simp [MemPlace.row])).2 u v (by simpa using World.var?_cell hg0 hv0 0)
  obtain ⟨a0, s0, rfl, _, _, _, rfl⟩ := errorString_of_trod Tryd.underlying79 rowES Tryd.underlying108 Tryd.underlying110 rfl rfl Tryd.underlying9 cellsES cellsStrE hd0 ok0
  have hc : W.cell? ⟨5, 0, none⟩ = some (.iface 108 (.pointer (some a0))) := by simpa using World.var?_cell hg0 hv0 0
  refine ⟨?_, _, _, hc⟩
  rcases Nat.lt_or_ge 5 W.heap.size with h0 | h0
  · exact h0
  · exfalso
    have : W.heap[5]? = none := Array.getElem?_eq_none h0
    simp [World.cell?, this] at hc
def numsZ : List Int := [17, 18, 19, 20, 21, 23, 24, 25, 26, 28, 29, 31, 32, 33, 34]
theorem numsZ_at : ∀ j, j < 15 → numsZ.getD j 0 = nthU j := by decide
theorem cellsIntU : Tryd.prog.cellsOf 3 = 1 := by kernel_rfl
theorem cellsNumsU : Tryd.prog.cellsOf 65 = 15 := by kernel_rfl
theorem gnumU : Tryd.prog.globalNamed "phosphor/udk.numbers" = some 0 := by kernel_rfl
theorem tnumU : (Tryd.prog.globals[0]?).map (·.type) = some 65 := by kernel_rfl
set_option maxRecDepth 100000 in
theorem numU_of {W : World} (h : laidMetH Tryd.prog laidU W) : Nums W := by
  rw [MakeChecks.laidMetH_plain _ _ _ (by kernel_rfl)] at h
  have h2 := h.filter (fun x => x.1 == "phosphor/udk.numbers")
  rw [show laidU.filter (fun x => x.1 == "phosphor/udk.numbers") = [("phosphor/udk.numbers", Lib.tabData .i64 numsZ)] from by kernel_rfl] at h2
  have h3 := Lib.tabIs_of_head gnumU tnumU Tryd.underlying65 Tryd.underlying3 cellsIntU cellsNumsU h2
  have hc : ∀ i, i < 15 → W.cell? ⟨0, i, none⟩ = some (.int .i64 (numsZ.getD i 0)) := fun i hi => h3.cell gnumU i hi
  refine ⟨?_, fun j v hj => ?_⟩
  · rcases Nat.lt_or_ge 0 W.heap.size with h0 | h0
    · exact h0
    · exfalso
      have h4 := hc 0 (by omega)
      have : W.heap[0]? = none := Array.getElem?_eq_none h0
      simp [World.cell?, this] at h4
  · have hj15 : j < 15 := by
      rcases Nat.lt_or_ge j 15 with h0 | h0
      · exact h0
      · rw [List.getElem?_eq_none (by simp [numCells]; omega)] at hj; cases hj
    rw [hc j hj15]
    have e : numCells[j]? = some (.int .i64 (nthU j)) := by unfold numCells; simp [hj15]
    rw [e] at hj
    injection hj with hj
    rw [← hj, numsZ_at j hj15]
theorem envU {W : World} (h : laidMetH Tryd.prog laidU W) : UEnv W := ⟨errSU h, errRU h, numU_of h⟩
def litU : DataW Unit → Value
  | .lit (.int k n) => .int k n
  | _ => .int .u8 0
/-- The cells of a table as the row lists it, flat. -/
def flatU : DataW Unit → Array Value
  | .agg xs => (xs.flatMap fun
    | .agg ys => ys.map litU
    | x => [litU x]).toArray
  | _ => #[]
def layU (g : Nat) (d : DataW Unit) (h : Array Obj) : Array Obj := h.modify g fun
  | .cells _ t frozen => .cells (flatU d) t frozen
  | o => o
set_option maxRecDepth 100000 in
/-- A world for the witness: the settled one with two blocks more (the errors' texts), the variables holding what their initialisers lay. -/
noncomputable def laidWorldU (os : Os) : World :=
  let N := (World.settled Tryd.prog os).heap.size
  let w0 := World.holding Tryd.prog os ⟨#[.cells #[.string ⟨#[118, 97, 108, 117, 101, 32, 111, 117, 116, 32, 111, 102, 32, 114, 97, 110, 103, 101]⟩] 110, .cells #[.string ⟨#[105, 110, 118, 97, 108, 105, 100, 32, 115, 121, 110, 116, 97, 120]⟩] 110], #[], []⟩
  let put (h : Array Obj) (g : Nat) (cs : Array Value) : Array Obj := h.modify g fun
    | .cells _ t frozen => .cells cs t frozen
    | o => o
  { w0 with heap := put (put (layU 7 Rows.laid_math_bits_deBruijn32tab (layU 8 Rows.laid_math_bits_deBruijn64tab (layU 6 Rows.laid_internal_strconv_uint64pow10 (layU 2 Rows.laid_unicode_utf8_acceptRanges (layU 0 Rows.laid_phosphor_udk_numbers (layU 1 Rows.laid_unicode_utf8_first (w0.heap))))))) 5 #[.iface 108 (.pointer (some ⟨N, 0, none⟩))]) 4 #[.iface 108 (.pointer (some ⟨N + 1, 0, none⟩))] }
set_option maxRecDepth 100000 in
theorem laid_metU (os : Os) (args : Array Value) : laidMet Tryd.prog laidU ((laidWorldU os).forCall (fun _ _ => 0) ⟨#[], args, []⟩).memory :=
  laidMet_of_run3 10 (by kernel_rfl) (by kernel_rfl) (by kernel_rfl)
end Go.Proofs.YtlhabooeeohniaaDoor

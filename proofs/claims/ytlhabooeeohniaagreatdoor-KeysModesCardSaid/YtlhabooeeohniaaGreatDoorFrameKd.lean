/-
  The library's tables and its two errors, and the keys' numbers: what the row's list gives, and a world that holds them.
-/
import Derived.Test.YtlhabooeeohniaaGreatDoorFrameB
import Derived.LaidSub
import Derived.LaidLaws
import Derived.Stop.ErrReads
import Derived.Deep.DeepLaidRun
import Derived.Deep.DeepWitnessRowRef
import Derived.Lib.LaidTab
import Derived.Test.YtlhabooeeohniaaGreatDoorKeyG
namespace Go.Proofs.YtlhabooeeohniaaGreatDoor
open Go Go.RowKit Go.ChangeShapes Go.WideShapes

abbrev laidK : List (String × DataW Unit) := [("math/bits.deBruijn32tab", Rows.laid_math_bits_deBruijn32tab), ("math/bits.deBruijn64tab", Rows.laid_math_bits_deBruijn64tab), ("internal/strconv.uint64pow10", Rows.laid_internal_strconv_uint64pow10), ("unicode/utf8.acceptRanges", Rows.laid_unicode_utf8_acceptRanges), ("strconv.ErrRange", Rows.laid_strconv_ErrRange), ("strconv.ErrSyntax", Rows.laid_strconv_ErrSyntax), ("phosphor/udk.numbers", Rows.laid_phosphor_udk_numbers), ("phosphor/keys.numbers", Rows.laid_phosphor_keys_numbers), ("unicode/utf8.first", Rows.laid_unicode_utf8_first)]
theorem gErrS : Tryz.prog.globalNamed "strconv.ErrSyntax" = some 5 := by kernel_rfl
theorem tErrS : (Tryz.prog.globals[5]?).map (·.type) = some 69 := by kernel_rfl
theorem gErrR : Tryz.prog.globalNamed "strconv.ErrRange" = some 6 := by kernel_rfl
theorem tErrR : (Tryz.prog.globals[6]?).map (·.type) = some 69 := by kernel_rfl
theorem starES : "*" ++ "errors.errorString" = "*errors.errorString" := by decide
theorem rowES (u : TypeId) (h : Tryz.prog.typeName? 3 u = some "*errors.errorString") : u = 130 :=
  typeName_ptr_named (nm := "errors.errorString") (by rw [starES]; kernel_rfl) (by kernel_rfl) (by decide) u (by rw [starES]; exact h)
theorem cellsES : Tryz.prog.cellsOf 132 = 1 := by kernel_rfl
theorem cellsStrE : Tryz.prog.cellsOf 9 = 1 := by kernel_rfl
set_option maxRecDepth 100000 in
theorem errSU {W : World} (h : laidMetH Tryz.prog laidK W) : ErrS W := by
  rw [MakeChecks.laidMetH_plain _ _ _ (by kernel_rfl)] at h
  have h2 := h.filter (fun x => x.1 == "strconv.ErrSyntax")
  rw [show laidK.filter (fun x => x.1 == "strconv.ErrSyntax") = [("strconv.ErrSyntax", Rows.laid_strconv_ErrSyntax)] from by kernel_rfl] at h2
  obtain ⟨ps, ⟨g0, t0, cs0, f0, p0, q0, hg0, ht0, hv0, hd0, hq0, e0⟩, hnd, hrows⟩ := h2
  obtain rfl := Option.some.inj (gErrS.symm.trans hg0)
  obtain rfl := Option.some.inj (tErrS.symm.trans ht0)
  have hq0' : q0 = [] := hq0
  subst hq0'
  subst e0
  obtain ⟨l0⟩ := cs0
  have ok0 : ∀ u v, l0 = [.iface u v] → Value.okWide Tryz.prog W .any 0 u v := fun u v e => by
    subst e
    exact (hrows 5 0 (by simp [MemPlace.row])).2 u v (by simpa using World.var?_cell hg0 hv0 0)
  obtain ⟨a0, s0, rfl, _, _, _, rfl⟩ := errorString_of_trod Tryz.underlying69 rowES Tryz.underlying130 Tryz.underlying132 rfl rfl Tryz.underlying9 cellsES cellsStrE hd0 ok0
  have hc : W.cell? ⟨5, 0, none⟩ = some (.iface 130 (.pointer (some a0))) := by simpa using World.var?_cell hg0 hv0 0
  refine ⟨?_, _, _, hc⟩
  rcases Nat.lt_or_ge 5 W.heap.size with h0 | h0
  · exact h0
  · exfalso
    have : W.heap[5]? = none := Array.getElem?_eq_none h0
    simp [World.cell?, this] at hc
set_option maxRecDepth 100000 in
theorem errRU {W : World} (h : laidMetH Tryz.prog laidK W) : ErrR W := by
  rw [MakeChecks.laidMetH_plain _ _ _ (by kernel_rfl)] at h
  have h2 := h.filter (fun x => x.1 == "strconv.ErrRange")
  rw [show laidK.filter (fun x => x.1 == "strconv.ErrRange") = [("strconv.ErrRange", Rows.laid_strconv_ErrRange)] from by kernel_rfl] at h2
  obtain ⟨ps, ⟨g0, t0, cs0, f0, p0, q0, hg0, ht0, hv0, hd0, hq0, e0⟩, hnd, hrows⟩ := h2
  obtain rfl := Option.some.inj (gErrR.symm.trans hg0)
  obtain rfl := Option.some.inj (tErrR.symm.trans ht0)
  have hq0' : q0 = [] := hq0
  subst hq0'
  subst e0
  obtain ⟨l0⟩ := cs0
  have ok0 : ∀ u v, l0 = [.iface u v] → Value.okWide Tryz.prog W .any 0 u v := fun u v e => by
    subst e
    exact (hrows 6 0 (by simp [MemPlace.row])).2 u v (by simpa using World.var?_cell hg0 hv0 0)
  obtain ⟨a0, s0, rfl, _, _, _, rfl⟩ := errorString_of_trod Tryz.underlying69 rowES Tryz.underlying130 Tryz.underlying132 rfl rfl Tryz.underlying9 cellsES cellsStrE hd0 ok0
  have hc : W.cell? ⟨6, 0, none⟩ = some (.iface 130 (.pointer (some a0))) := by simpa using World.var?_cell hg0 hv0 0
  refine ⟨?_, _, _, hc⟩
  rcases Nat.lt_or_ge 6 W.heap.size with h0 | h0
  · exact h0
  · exfalso
    have : W.heap[6]? = none := Array.getElem?_eq_none h0
    simp [World.cell?, this] at hc
def numsZ : List Int := [17, 18, 19, 20, 21, 23, 24, 25, 26, 28, 29, 31, 32, 33, 34]
theorem numsZ_at : ∀ j, j < 15 → numsZ.getD j 0 = nthU j := by decide
theorem cellsIntU : Tryz.prog.cellsOf 3 = 1 := by kernel_rfl
theorem cellsNumsU : Tryz.prog.cellsOf 79 = 15 := by kernel_rfl
theorem gnumU : Tryz.prog.globalNamed "phosphor/udk.numbers" = some 1 := by kernel_rfl
theorem tnumU : (Tryz.prog.globals[1]?).map (·.type) = some 79 := by kernel_rfl
set_option maxRecDepth 100000 in
theorem numU_of {W : World} (h : laidMetH Tryz.prog laidK W) : Nums W := by
  rw [MakeChecks.laidMetH_plain _ _ _ (by kernel_rfl)] at h
  have h2 := h.filter (fun x => x.1 == "phosphor/udk.numbers")
  rw [show laidK.filter (fun x => x.1 == "phosphor/udk.numbers") = [("phosphor/udk.numbers", Lib.tabData .i64 numsZ)] from by kernel_rfl] at h2
  have h3 := Lib.tabIs_of_head gnumU tnumU Tryz.underlying79 Tryz.underlying3 cellsIntU cellsNumsU h2
  have hc : ∀ i, i < 15 → W.cell? ⟨1, i, none⟩ = some (.int .i64 (numsZ.getD i 0)) := fun i hi => h3.cell gnumU i hi
  refine ⟨?_, fun j v hj => ?_⟩
  · rcases Nat.lt_or_ge 1 W.heap.size with h0 | h0
    · exact h0
    · exfalso
      have h4 := hc 0 (by omega)
      have : W.heap[1]? = none := Array.getElem?_eq_none h0
      simp [World.cell?, this] at h4
  · have hj15 : j < 15 := by
      rcases Nat.lt_or_ge j 15 with h0 | h0
      · exact h0
      · rw [List.getElem?_eq_none (by simp [numCells]; omega)] at hj; cases hj
    rw [hc j hj15]
    have e : numCells[j]? = some (.int .i64 (nthU j)) := by unfold numCells; simp [hj15]
    rw [e] at hj
    injection hj with hj
    rw [← hj, numsZ_at j hj15]
theorem gnumK : Tryz.prog.globalNamed "phosphor/keys.numbers" = some 0 := by kernel_rfl
theorem tnumK : (Tryz.prog.globals[0]?).map (·.type) = some 79 := by kernel_rfl
set_option maxRecDepth 100000 in
theorem numK_of {W : World} (h : laidMetH Tryz.prog laidK W) : KNums W := by
  rw [MakeChecks.laidMetH_plain _ _ _ (by kernel_rfl)] at h
  have h2 := h.filter (fun x => x.1 == "phosphor/keys.numbers")
  rw [show laidK.filter (fun x => x.1 == "phosphor/keys.numbers") = [("phosphor/keys.numbers", Lib.tabData .i64 numsZ)] from by kernel_rfl] at h2
  have h3 := Lib.tabIs_of_head gnumK tnumK Tryz.underlying79 Tryz.underlying3 cellsIntU cellsNumsU h2
  have hc : ∀ i, i < 15 → W.cell? ⟨0, i, none⟩ = some (.int .i64 (numsZ.getD i 0)) := fun i hi => h3.cell gnumK i hi
  refine ⟨?_, fun j v hj => ?_⟩
  · rcases Nat.lt_or_ge 0 W.heap.size with h0 | h0
    · exact h0
    · exfalso
      have h4 := hc 0 (by omega)
      have : W.heap[0]? = none := Array.getElem?_eq_none h0
      simp [World.cell?, this] at h4
  · have hj15 : j < 15 := by
      rcases Nat.lt_or_ge j 15 with h0 | h0
      · exact h0
      · rw [List.getElem?_eq_none (by simp [numCells]; omega)] at hj; cases hj
    rw [hc j hj15]
    have e : numCells[j]? = some (.int .i64 (nthU j)) := by unfold numCells; simp [hj15]
    rw [e] at hj
    injection hj with hj
    rw [← hj, numsZ_at j hj15]
theorem gTenK : Tryz.prog.globalNamed "internal/strconv.uint64pow10" = some 7 := by kernel_rfl
theorem tTenK : (Tryz.prog.globals[7]?).map (·.type) = some 150 := by kernel_rfl
theorem cellsU64K : Tryz.prog.cellsOf 67 = 1 := by kernel_rfl
theorem cellsTenK : Tryz.prog.cellsOf 150 = 20 := by kernel_rfl
theorem tenK_of {W : World} (h : laidMetH Tryz.prog laidK W) : Ten W := by
  rw [MakeChecks.laidMetH_plain _ _ _ (by kernel_rfl)] at h
  have h2 := h.filter (fun x => x.1 == "internal/strconv.uint64pow10")
  rw [show laidK.filter (fun x => x.1 == "internal/strconv.uint64pow10") = [("internal/strconv.uint64pow10", Lib.tabData .u64 Lib.pow10Tab)] from by kernel_rfl] at h2
  exact Lib.tabIs_of_head gTenK tTenK Tryz.underlying150 Tryz.underlying67 cellsU64K cellsTenK h2
theorem envK {W : World} (h : laidMetH Tryz.prog laidK W) : KEnv W := ⟨⟨errSU h, errRU h, numU_of h⟩, numK_of h, tenK_of h⟩
def litU : DataW Unit → Value
  | .lit (.int k n) => .int k n
  | _ => .int .u8 0
/-- The cells of a table as the row lists it, flat. -/
def flatU : DataW Unit → Array Value
  | .agg xs => (xs.flatMap fun
    | .agg ys => ys.map litU
    | x => [litU x]).toArray
  | _ => #[]
def layU (g : Nat) (d : DataW Unit) (h : Array Obj) : Array Obj := h.modify g fun
  | .cells _ t frozen => .cells (flatU d) t frozen
  | o => o
set_option maxRecDepth 100000 in
/-- A world for the witness: the settled one with two blocks more (the errors' texts), the variables holding what their initialisers lay. -/
noncomputable def laidWorldK (os : Os) : World :=
  let N := (World.settled Tryz.prog os).heap.size
  let w0 := World.holding Tryz.prog os ⟨#[.cells #[.string ⟨#[118, 97, 108, 117, 101, 32, 111, 117, 116, 32, 111, 102, 32, 114, 97, 110, 103, 101]⟩] 132, .cells #[.string ⟨#[105, 110, 118, 97, 108, 105, 100, 32, 115, 121, 110, 116, 97, 120]⟩] 132], #[], []⟩
  let put (h : Array Obj) (g : Nat) (cs : Array Value) : Array Obj := h.modify g fun
    | .cells _ t frozen => .cells cs t frozen
    | o => o
  { w0 with heap := put (put (layU 8 Rows.laid_math_bits_deBruijn32tab (layU 9 Rows.laid_math_bits_deBruijn64tab (layU 7 Rows.laid_internal_strconv_uint64pow10 (layU 3 Rows.laid_unicode_utf8_acceptRanges (layU 1 Rows.laid_phosphor_udk_numbers (layU 0 Rows.laid_phosphor_keys_numbers (layU 2 Rows.laid_unicode_utf8_first (w0.heap)))))))) 6 #[.iface 130 (.pointer (some ⟨N, 0, none⟩))]) 5 #[.iface 130 (.pointer (some ⟨N + 1, 0, none⟩))] }
set_option maxRecDepth 100000 in
theorem laid_metK (os : Os) (args : Array Value) : laidMet Tryz.prog laidK ((laidWorldK os).forCall (fun _ _ => 0) ⟨#[], args, []⟩).memory :=
  laidMet_of_run3 10 (by kernel_rfl) (by kernel_rfl) (by kernel_rfl)
end Go.Proofs.YtlhabooeeohniaaGreatDoor

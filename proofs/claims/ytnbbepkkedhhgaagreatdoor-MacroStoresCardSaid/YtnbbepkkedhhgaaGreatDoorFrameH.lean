/-
  The library's three tables and its two errors: what the row's list gives, and a world that holds them.
-/
import Derived.Test.YtnbbepkkedhhgaaGreatDoorFrameP
import Derived.Test.YtnbbepkkedhhgaaGreatDoorHexB
import Derived.LaidLaws
import Derived.Stop.ErrReads
import Derived.Deep.DeepLaidRun
import Derived.Deep.DeepWitnessRowRef
namespace Go.Proofs.YtnbbepkkedhhgaaGreatDoor

open Go.RowKit Go.ChangeShapes Go.WideShapes

abbrev laidH : List (String × DataW Unit) := [("math/bits.deBruijn32tab", Rows.laid_math_bits_deBruijn32tab), ("math/bits.deBruijn64tab", Rows.laid_math_bits_deBruijn64tab), ("internal/strconv.uint64pow10", Rows.laid_internal_strconv_uint64pow10), ("strconv.ErrRange", Rows.laid_strconv_ErrRange), ("strconv.ErrSyntax", Rows.laid_strconv_ErrSyntax)]
theorem tenH {W : World} (h : laidMetH Tryz.prog laidH W) : Ten W := by
  rw [MakeChecks.laidMetH_plain _ _ _ (by kernel_rfl)] at h
  have h2 := h.filter (fun x => x.1 == "internal/strconv.uint64pow10")
  rw [show laidH.filter (fun x => x.1 == "internal/strconv.uint64pow10") = [("internal/strconv.uint64pow10", Lib.tabData .u64 Lib.pow10Tab)] from by kernel_rfl] at h2
  exact Lib.tabIs_of_head gTen tTen Tryz.underlying164 Tryz.underlying102 cellsU64 cellsTen h2
theorem gErrS : Tryz.prog.globalNamed "strconv.ErrSyntax" = some 1 := by kernel_rfl
theorem tErrS : (Tryz.prog.globals[1]?).map (·.type) = some 88 := by kernel_rfl
theorem starES : "*" ++ "errors.errorString" = "*errors.errorString" := by decide
theorem rowES (u : TypeId) (h : Tryz.prog.typeName? 3 u = some "*errors.errorString") : u = 155 :=
  typeName_ptr_named (nm := "errors.errorString") (by rw [starES]; kernel_rfl) (by kernel_rfl) (by decide) u (by rw [starES]; exact h)
theorem cellsES : Tryz.prog.cellsOf 157 = 1 := by kernel_rfl
theorem cellsStrE : Tryz.prog.cellsOf 9 = 1 := by kernel_rfl
set_option maxRecDepth 100000 in
theorem errH {W : World} (h : laidMetH Tryz.prog laidH W) : ErrS W := by
  rw [MakeChecks.laidMetH_plain _ _ _ (by kernel_rfl)] at h
  have h2 := h.filter (fun x => x.1 == "strconv.ErrSyntax")
  rw [show laidH.filter (fun x => x.1 == "strconv.ErrSyntax") = [("strconv.ErrSyntax", Rows.laid_strconv_ErrSyntax)] from by kernel_rfl] at h2
  obtain ⟨ps, ⟨g0, t0, cs0, f0, p0, q0, hg0, ht0, hv0, hd0, hq0, e0⟩, hnd, hrows⟩ := h2
  obtain rfl := Option.some.inj (gErrS.symm.trans hg0)
  obtain rfl := Option.some.inj (tErrS.symm.trans ht0)
  have hq0' : q0 = [] := hq0
  subst hq0'
  subst e0
  obtain ⟨l0⟩ := cs0
  have ok0 : ∀ u v, l0 = [.iface u v] → Value.okWide Tryz.prog W .any 0 u v := fun u v e => by
    subst e
    exact (hrows 1 0 (by simp [MemPlace.row])).2 u v (by simpa using World.var?_cell hg0 hv0 0)
  obtain ⟨a0, s0, rfl, _, _, _, rfl⟩ := errorString_of_trod Tryz.underlying88 rowES Tryz.underlying155 Tryz.underlying157 rfl rfl Tryz.underlying9 cellsES cellsStrE hd0 ok0
  have hc : W.cell? ⟨1, 0, none⟩ = some (.iface 155 (.pointer (some a0))) := by simpa using World.var?_cell hg0 hv0 0
  refine ⟨?_, _, _, hc⟩
  rcases Nat.lt_or_ge 1 W.heap.size with h0 | h0
  · exact h0
  · exfalso
    have : W.heap[1]? = none := Array.getElem?_eq_none h0
    simp [World.cell?, this] at hc
set_option maxRecDepth 100000 in
/-- A world for the witness: the settled one with two blocks more (the errors' texts), the variables holding what their initialisers lay. -/
noncomputable def laidWorldH (os : Os) : World :=
  let N := (World.settled Tryz.prog os).heap.size
  let w0 := World.holding Tryz.prog os ⟨#[.cells #[.string ⟨#[118, 97, 108, 117, 101, 32, 111, 117, 116, 32, 111, 102, 32, 114, 97, 110, 103, 101]⟩] 157, .cells #[.string ⟨#[105, 110, 118, 97, 108, 105, 100, 32, 115, 121, 110, 116, 97, 120]⟩] 157], #[], []⟩
  let put (h : Array Obj) (g : Nat) (cs : Array Value) : Array Obj := h.modify g fun
    | .cells _ t frozen => .cells cs t frozen
    | o => o
  { w0 with heap := put (put (lay 4 Rows.laid_math_bits_deBruijn32tab (lay 5 Rows.laid_math_bits_deBruijn64tab (lay 3 Rows.laid_internal_strconv_uint64pow10 w0.heap))) 2 #[.iface 155 (.pointer (some ⟨N, 0, none⟩))]) 1 #[.iface 155 (.pointer (some ⟨N + 1, 0, none⟩))] }
set_option maxRecDepth 100000 in
theorem laid_metH (os : Os) (args : Array Value) : laidMet Tryz.prog laidH ((laidWorldH os).forCall (fun _ _ => 0) ⟨#[], args, []⟩).memory :=
  laidMet_of_run3 10 (by kernel_rfl) (by kernel_rfl) (by kernel_rfl)
end Go.Proofs.YtnbbepkkedhhgaaGreatDoor

/-
  The walk of the fact that the laws of lines begin with.
-/
import Derived.Test.YtbndnaohjloanaaDoorLineM
namespace Go.Proofs.YtbndnaohjloanaaDoor
open Go.RowKit

theorem under_line : Tryd.prog.underlying 29 = some (.struct (Tryd.prog.fieldsOf 29)) := by kernel_rfl
theorem field0_line : ((Tryd.prog.fieldsOf 29)[0]?).map (fun f => (f.type, f.offset)) = some (22, 0) := by kernel_rfl
theorem part_slice (W : World) (xs : Array Value) (i : Nat) (v : Value) (h : xs[i]? = some v) : (part 22 xs i).run Tryd.prog W = .ok v W := by
  simp [part, h]
/-- The cells of a line that is a value. -/
theorem field_line (a b : Value) (W : World) : (Instr.field 29 (.agg #[a, b]) 0).run Tryd.prog W = .ok a W := by
  have h := field0_line
  rcases hf : (Tryd.prog.fieldsOf 29)[0]? with _ | f
  · rw [hf] at h; cases h
  · rw [hf] at h
    simp only [Option.map_some, Option.some.injEq, Prod.mk.injEq] at h
    obtain ⟨h1, h2⟩ := h
    have hp := part_slice W #[a, b] 0 a rfl
    simp [Instr.field, run_underlying under_line, hf, h1, h2, hp, asAgg]

def threeC : List Cl := [blankC, blankC, blankC]
def inkC : Cl := ⟨120, 0, false⟩
set_option maxRecDepth 100000 in
set_option maxHeartbeats 4000000 in
theorem awake_any (w : World) : Calls Tryd.prog 4 #[] w fun e w' => e = .returned (.bool true) ∧ Below w.heap.size w w' := by
  have HN := Lib.hid (fun W => new_any 3 W)
  have HS := Lib.hid (fun g W h => sized_any (some ⟨g, 0, none⟩) 3 threeC 0 1 (by decide) W h)
  have HW := Lib.hid (fun g W => width_any (some ⟨g, 0, none⟩) 3 3 1 (by decide) W)
  have HF := Lib.hid (fun g W h => fill_any inkC (some ⟨g, 0, none⟩) 3 threeC 0 1 2 (by decide) W h)
  have hN : colsP 3 = 3 := rfl
  have hR : resP [] 3 = threeC := rfl
  have hZ : sizedP 1 = 1 := rfl
  have hX : widthP 3 1 = 1 := rfl
  have hE : eachP (fun _ => inkC) threeC (loP 1) (hiP threeC.length 2 - loP 1) = [blankC, inkC, blankC] := rfl
  have hL : threeC.length = 3 := rfl
  rw [hN, hR] at HN
  rw [hZ, hL] at HS
  rw [hX] at HW
  rw [hE, hL] at HF
  unfold lineV inkC Cl.val at *
  clear hN hR hZ hX hE hL
  have hfl := field_line
  go_enter Tryd.func4, Tryd.ntmps4
  go_wp2_with fail
  refine (HN.out _).mono ?_
  rintro e w1 ⟨g, hg, rfl, hrow, hb1⟩
  have HRow1 := Lib.hid (show Row _ g threeC from Blk.alloc hrow (.cells #[.slice (some ⟨g, 0, none⟩) 3 3, .int .i64 0] 29))
  have HB1 := Lib.hid (Blk.new w1 29 #[.slice (some ⟨g, 0, none⟩) 3 3, .int .i64 0])
  have HBl1 := Lib.hid (hb1.alloc hb1.size (.cells #[.slice (some ⟨g, 0, none⟩) 3 3, .int .i64 0] 29))
  have hgl := Row.lt hrow
  have d6 : (w1.alloc (.cells #[.slice (some ⟨g, 0, none⟩) 3 3, .int .i64 0] 29)).cell? ⟨g, 6, none⟩ = some (.int .i32 32) := (row_cell HRow1.out (k := 2) (by decide)).1
  clear hrow hb1
  go_wp2_with fail
  clear d6
  refine (HS.out g _ (Row.reads HRow1.out)).mono ?_
  rintro e w2 ⟨g2, hg2, rfl, hrow2, hb2⟩
  have HRow2 := Lib.hid (Row.next HRow1.out hb2)
  have HB2 := Lib.hid (HB1.out.next hb2)
  have HBl2 := Lib.hid (HBl1.out.trans (hb2.mono HBl1.out.size))
  clear hrow2 hb2 hg2
  go_wp2_with fail
  refine (HW.out g2 _).mono ?_
  rintro e w3 ⟨rfl, hb3⟩
  have HRow3 := Lib.hid (Row.next HRow2.out hb3)
  have HB3 := Lib.hid (HB2.out.next hb3)
  have HBl3 := Lib.hid (HBl2.out.trans (hb3.mono HBl2.out.size))
  clear hb3
  have b0 : w3.cell? ⟨w1.heap.size, 0, none⟩ = some (.slice (some ⟨g, 0, none⟩) 3 3) := HB3.out.cell 0
  have b1 : w3.cell? ⟨w1.heap.size, 1, none⟩ = some (.int .i64 0) := HB3.out.cell 1
  go_wp2_with fail
  refine (HF.out g _ (Row.reads HRow3.out)).mono ?_
  rintro e w4 ⟨g4, hg4, rfl, hrow4, hb4⟩
  have HBl4 := Lib.hid (HBl3.out.trans (hb4.mono HBl3.out.size))
  have d3 : w4.cell? ⟨g4, 3, none⟩ = some (.int .i32 120) := (row_cell hrow4 (k := 1) (by decide)).1
  clear hb4 hrow4 hg4
  go_wp2_with fail
  go_ret
  exact ⟨rfl, HBl4.out⟩
end Go.Proofs.YtbndnaohjloanaaDoor

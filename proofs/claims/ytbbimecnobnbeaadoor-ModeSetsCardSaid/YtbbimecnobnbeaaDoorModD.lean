/-
  The fixed fact of the laws on modes.
-/
import Derived.Test.YtbbimecnobnbeaaDoorModC
namespace Go.Proofs.YtbbimecnobnbeaaDoor
open Go Go.RowKit

theorem fin_a : fin true 69 3 = 17 := by decide +kernel
theorem fin_b : fin true 69 4 = 15 := by decide +kernel
theorem has_a : hasN 2948 7 = true ∧ hasN 2948 1 = false := by decide +kernel
set_option maxRecDepth 100000 in
set_option maxHeartbeats 2000000 in
theorem awakeM_any (w : World) (ht : Mods w) :
    Calls Tryd.prog 7 #[] w fun e w' => e = .returned (.bool true) ∧ Below w.heap.size w w' := by
  have HF : Hid (∀ (dec : Bool) (n level : Int) W, Mods W → Calls Tryd.prog 8 #[.bool dec, .int .i64 n, .int .i64 level] W fun e w' => e = .returned (finV (fin dec n level)) ∧ Below W.heap.size W w') := Lib.hid mfind_any
  have HA := Lib.hid (HF.out true 69 3); have HB := Lib.hid (HF.out true 69 4)
  rw [fin_a] at HA
  rw [fin_b] at HB
  have va : finV 17 = .tuple #[.int .i64 0, .bool false] := rfl
  have vb : finV 15 = .tuple #[.int .i64 15, .bool true] := rfl
  rw [va] at HA
  rw [vb] at HB
  have HG : Hid (∀ W, Mods W → Calls Tryd.prog 17 #[] W fun e w' => e = .returned (.int .u32 2948) ∧ Below W.heap.size W w') := Lib.hid mbegin_any
  have HH1 := Lib.hid (fun W => has_any 2948 (by decide) 7 W); have HH2 := Lib.hid (fun W => has_any 2948 (by decide) 1 W)
  rw [has_a.1] at HH1
  rw [has_a.2] at HH2
  have HT := Lib.hid ht
  clear ht va vb HF
  go_enter Tryd.func7, Tryd.ntmps7
  go_wp2_with fail
  refine (HA.out _ HT.out).mono ?_
  rintro e w1 ⟨rfl, hb1⟩
  have HT1 := Lib.hid (HT.out.next hb1); have HB1 := Lib.hid hb1
  clear hb1
  go_wp2_with fail
  refine (HB.out _ HT1.out).mono ?_
  rintro e w2 ⟨rfl, hb2⟩
  have HT2 := Lib.hid (HT1.out.next hb2); have HB2 := Lib.hid (HB1.out.trans (hb2.mono HB1.out.size))
  clear hb2
  go_wp2_with fail
  refine (HG.out _ HT2.out).mono ?_
  rintro e w3 ⟨rfl, hb3⟩
  have HT3 := Lib.hid (HT2.out.next hb3); have HB3 := Lib.hid (HB2.out.trans (hb3.mono HB2.out.size))
  clear hb3
  go_wp2_with fail
  refine (HH1.out _).mono ?_
  rintro e w4 ⟨rfl, rfl⟩
  go_wp2_with fail
  refine (HG.out _ HT3.out).mono ?_
  rintro e w4 ⟨rfl, hb4⟩
  have HB4 := Lib.hid (HB3.out.trans (hb4.mono HB3.out.size))
  clear hb4
  go_wp2_with fail
  refine (HH2.out _).mono ?_
  rintro e w5 ⟨rfl, rfl⟩
  go_wp2_with fail
  go_ret
  exact ⟨rfl, HB4.out⟩
end Go.Proofs.YtbbimecnobnbeaaDoor

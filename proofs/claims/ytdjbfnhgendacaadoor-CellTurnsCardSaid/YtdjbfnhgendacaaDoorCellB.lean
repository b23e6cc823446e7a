/-
  The walks of the reference of cells: a blank, a cell's weight.
-/
import Derived.Test.YtdjbfnhgendacaaDoorCellA
namespace Go.Proofs.YtdjbfnhgendacaaDoor
open Go.RowKit

theorem tmod_facts (g : Int) : (0 ≤ g.tmod 65536 ∧ g.tmod 65536 < 65536 ∧ g.tmod 65536 = g % 65536) ∨ (-65536 < g.tmod 65536 ∧ g.tmod 65536 < 0 ∧ g.tmod 65536 + 65536 = g % 65536) := by
  rcases Int.le_total 0 g with h | h
  · left
    rw [Int.tmod_eq_emod_of_nonneg h]
    omega
  · obtain ⟨n, rfl⟩ : ∃ n, g = -n := ⟨-g, by omega⟩
    rw [Int.neg_tmod, Int.tmod_eq_emod_of_nonneg (by omega)]
    omega

set_option maxHeartbeats 1000000 in
theorem refCellWeight_any (g r : Int) (k : Bool) (hg : -2147483648 ≤ g ∧ g ≤ 2147483647) (hr : 0 ≤ r ∧ r ≤ 255) (w : World) :
    Calls Tryd.prog 33 #[.agg #[.int .i32 g, .int .u8 r, .bool k]] w fun e w' => e = .returned (.int .i64 (Cl.w ⟨g, r, k⟩)) ∧ Below w.heap.size w w' := by
  obtain ⟨r0, r1⟩ := hr
  obtain ⟨g0, g1⟩ := hg
  have HW := Lib.hid (show Cl.w ⟨g, r, k⟩ = g % 65536 + wt r + if k then 4 else 0 from rfl)
  obtain ⟨t0, t1⟩ := wt_range r
  have HT := Lib.hid (refWeight_any r r0 r1)
  have hmod := tmod_facts g
  by_cases h0 : 0 ≤ g
  · clear hmod
    have G0 : 0 ≤ g % 65536 ∧ g % 65536 < 65536 := by omega
    obtain ⟨G0, G1⟩ := G0
    generalize hG : g % 65536 = G at *
    have HG := Lib.hid hG
    clear hG
    generalize wt r = R at *
    cases k
    all_goals
      go_enter Tryd.func33, Tryd.ntmps33
      go_wp2_with fail
      refine (HT.out _).mono ?_
      rintro e w1 ⟨rfl, hb1⟩
      obtain ⟨hc1, hf1⟩ := bcell hb1
      have hb : Below w.heap.size w w1 := (show Below w.heap.size w _ by go_grown : Below w.heap.size w _).trans (hb1.mono (by simp))
      have hGG := HG.out
      go_wp2_with fail
      go_ret
      exact ⟨ret_int (by rw [HW.out]; simp), hb⟩
  · have hT : g.tmod 65536 = g.tmod 65536 := rfl
    generalize hG : g.tmod 65536 = T at *
    clear hT
    have HG := Lib.hid hG
    clear hG
    have hlt : g < 0 := by omega
    generalize wt r = R at *
    generalize hM : g % 65536 = M at *
    clear hM
    rcases hmod with ⟨m0, b1, m1⟩ | ⟨m0, m1, m2⟩
    · have HM := Lib.hid m1
      clear m1
      cases k
      all_goals
        have hGG := HG.out
        go_enter Tryd.func33, Tryd.ntmps33
        go_wp2_with fail
        refine (HT.out _).mono ?_
        rintro e w1 ⟨rfl, hb1⟩
        obtain ⟨hc1, hf1⟩ := bcell hb1
        have hb : Below w.heap.size w w1 := (show Below w.heap.size w _ by go_grown : Below w.heap.size w _).trans (hb1.mono (by simp))
        go_wp2_with fail
        go_ret
        exact ⟨ret_int (by rw [HW.out, ← HM.out]; simp), hb⟩
    · have HM := Lib.hid m2
      clear m2
      cases k
      all_goals
        have hGG := HG.out
        go_enter Tryd.func33, Tryd.ntmps33
        go_wp2_with fail
        refine (HT.out _).mono ?_
        rintro e w1 ⟨rfl, hb1⟩
        obtain ⟨hc1, hf1⟩ := bcell hb1
        have hb : Below w.heap.size w w1 := (show Below w.heap.size w _ by go_grown : Below w.heap.size w _).trans (hb1.mono (by simp))
        go_wp2_with fail
        go_ret
        exact ⟨ret_int (by rw [HW.out, ← HM.out]; simp), hb⟩

set_option maxHeartbeats 400000 in
theorem erased_any (w : World) : Calls Tryd.prog 49 #[] w fun e w' => e = .returned (Cl.val ⟨32, 0, false⟩) ∧ Below w.heap.size w w' := by
  go_enter Tryd.func49, Tryd.ntmps49
  go_wp2
  go_returns
  exact ⟨rfl, by go_grown⟩
theorem refErased_any (w : World) : Calls Tryd.prog 50 #[] w fun e w' => e = .returned (Cl.val ⟨32, 0, false⟩) ∧ Below w.heap.size w w' := by
  go_enter Tryd.func50, Tryd.ntmps50
  go_wp2
  go_returns
  exact ⟨rfl, by go_grown⟩
end Go.Proofs.YtdjbfnhgendacaaDoor

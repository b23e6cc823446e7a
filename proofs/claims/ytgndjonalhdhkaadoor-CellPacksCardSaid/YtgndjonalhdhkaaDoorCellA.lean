/-
  The walks of cells: a blank, a cell's weight.
-/
import Derived.Test.YtgndjonalhdhkaaDoorRendA
import Derived.Test.YtgndjonalhdhkaaDoorRendC
import Derived.Test.YtgndjonalhdhkaaDoorCl
import Derived.Deep.RegionHeld3
namespace Go.Proofs.YtgndjonalhdhkaaDoor

open Go.RowKit

/-- A cell's weight. -/
def Cl.w (c : Cl) : Int := c.g % 65536 + wt c.r + if c.k then 4 else 0
theorem Cl.w_range (c : Cl) : 0 ≤ c.w ∧ c.w ≤ 65787 := by
  have := wt_range c.r
  unfold Cl.w
  split <;> omega

set_option maxHeartbeats 1000000 in
theorem cellWeight_any (g r : Int) (k : Bool) (hr : 0 ≤ r ∧ r ≤ 255) (w : World) (ht : Tab w) :
    Calls Tryd.prog 19 #[.agg #[.int .i32 g, .int .u8 r, .bool k]] w fun e w' => e = .returned (.int .i64 (Cl.w ⟨g, r, k⟩)) ∧ Below w.heap.size w w' := by
  obtain ⟨r0, r1⟩ := hr
  have HW := Lib.hid (show Cl.w ⟨g, r, k⟩ = g % 65536 + wt r + if k then 4 else 0 from rfl)
  obtain ⟨t0, t1⟩ := wt_range r
  have HT := Lib.hid (weight_any r r0 r1)
  have e1 : IntKind.u16.wrap g = g % 65536 := IntKind.wrap_u16 g
  have G0 : 0 ≤ g % 65536 ∧ g % 65536 < 65536 := by omega
  obtain ⟨G0, G1⟩ := G0
  generalize g % 65536 = G at *
  generalize wt r = R at *
  have e2 : IntKind.i64.wrap G = G := IntWalk.i64_in _ (by omega)
  have e3 : IntKind.i64.wrap (G + R) = G + R := IntWalk.i64_in _ (by omega)
  generalize hS : G + R = S at *
  have S0 : 0 ≤ S ∧ S ≤ 65783 := by omega
  obtain ⟨S0, S1⟩ := S0
  have HS := Lib.hid hS
  clear hS
  go_enter Tryd.func19, Tryd.ntmps19
  go_wp2_with fail
  go_region_held3 (fun w' => w'.cell? ⟨w.heap.size, 0, none⟩ = some (.int .i32 g) ∧ w'.cell? ⟨w.heap.size, 1, none⟩ = some (.int .u8 r)) (go_keep)
    (first | (go_at_call 24; refine (HT.out _ ?_).mono ?_; (exact ht.next (by go_grown)); rintro e w1 ⟨rfl, hb1⟩; obtain ⟨hc1, hf1⟩ := bcell hb1))
  all_goals
    have hb : Below w.heap.size w w1 := (show Below w.heap.size w _ by go_grown : Below w.heap.size w _).trans (hb1.mono (by simp))
    rw [HS.out, e3]
    clear e1 e2 e3
    cases k
    · go_wp2
      go_ret
      exact ⟨ret_int (by rw [HW.out]; simp), hb⟩
    · go_wp2
      go_ret
      exact ⟨ret_int (by rw [HW.out]; simp), hb⟩
end Go.Proofs.YtgndjonalhdhkaaDoor

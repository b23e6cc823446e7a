/-
  The walks of cells: a blank, a cell's weight.
-/
import Derived.Test.YtdjbfnhgendacaaDoorRendA
import Derived.Test.YtdjbfnhgendacaaDoorRendC
import Derived.Deep.RegionHeld3
import Derived.Laws.StructEq
namespace Go.Proofs.YtdjbfnhgendacaaDoor
open Go.RowKit

/-- A cell's three parts. -/
structure Cl where
  g : Int
  r : Int
  k : Bool
/-- The parts lie within their kinds. -/
def Cl.ok (c : Cl) : Prop := (-2147483648 ≤ c.g ∧ c.g ≤ 2147483647) ∧ (0 ≤ c.r ∧ c.r ≤ 255)
def Cl.cells (c : Cl) : List Value := [.int .i32 c.g, .int .u8 c.r, .bool c.k]
def Cl.val (c : Cl) : Value := .agg #[.int .i32 c.g, .int .u8 c.r, .bool c.k]
/-- A cell's weight. -/
def Cl.w (c : Cl) : Int := c.g % 65536 + wt c.r + if c.k then 4 else 0
theorem Cl.w_range (c : Cl) : 0 ≤ c.w ∧ c.w ≤ 65787 := by
  have := wt_range c.r
  unfold Cl.w
  split <;> omega

theorem bcell {W w1 : World} (hb : Below W.heap.size W w1) : (∀ b o, b < W.heap.size → w1.cell? ⟨b, o, none⟩ = W.cell? ⟨b, o, none⟩) ∧ (∀ b o, b < W.heap.size → w1.frozen? ⟨b, o, none⟩ = W.frozen? ⟨b, o, none⟩) :=
  ⟨fun b o h => hb.cell (p := ⟨b, o, none⟩) h, fun b o h => hb.frozen (p := ⟨b, o, none⟩) h⟩

set_option maxHeartbeats 1000000 in
theorem cellWeight_any (g r : Int) (k : Bool) (hr : 0 ≤ r ∧ r ≤ 255) (w : World) (ht : Tab w) :
    Calls Tryd.prog 32 #[.agg #[.int .i32 g, .int .u8 r, .bool k]] w fun e w' => e = .returned (.int .i64 (Cl.w ⟨g, r, k⟩)) ∧ Below w.heap.size w w' := by
  obtain ⟨r0, r1⟩ := hr
  have HW := Lib.hid (show Cl.w ⟨g, r, k⟩ = g % 65536 + wt r + if k then 4 else 0 from rfl)
  obtain ⟨t0, t1⟩ := wt_range r
  have HT := Lib.hid (weight_any r r0 r1)
  have e1 : IntKind.u16.wrap g = g % 65536 := IntKind.wrap_u16 g
  have G0 : 0 ≤ g % 65536 ∧ g % 65536 < 65536 := by omega
  obtain ⟨G0, G1⟩ := G0
  generalize g % 65536 = G at *
  generalize wt r = R at *
  have e2 : IntKind.i64.wrap G = G := IntWalk.i64_in _ (by omega)
  have e3 : IntKind.i64.wrap (G + R) = G + R := IntWalk.i64_in _ (by omega)
  generalize hS : G + R = S at *
  have S0 : 0 ≤ S ∧ S ≤ 65783 := by omega
  obtain ⟨S0, S1⟩ := S0
  have HS := Lib.hid hS
  clear hS
  go_enter Tryd.func32, Tryd.ntmps32
  go_wp2_with fail
  go_region_held3 (fun w' => w'.cell? ⟨w.heap.size, 0, none⟩ = some (.int .i32 g) ∧ w'.cell? ⟨w.heap.size, 1, none⟩ = some (.int .u8 r)) (go_keep)
    (first | (go_at_call 29; refine (HT.out _ ?_).mono ?_; (exact ht.next (by go_grown)); rintro e w1 ⟨rfl, hb1⟩; obtain ⟨hc1, hf1⟩ := bcell hb1))
  all_goals
    have hb : Below w.heap.size w w1 := (show Below w.heap.size w _ by go_grown : Below w.heap.size w _).trans (hb1.mono (by simp))
    rw [HS.out, e3]
    clear e1 e2 e3
    cases k
    · go_wp2
      go_ret
      exact ⟨ret_int (by rw [HW.out]; simp), hb⟩
    · go_wp2
      go_ret
      exact ⟨ret_int (by rw [HW.out]; simp), hb⟩
end Go.Proofs.YtdjbfnhgendacaaDoor

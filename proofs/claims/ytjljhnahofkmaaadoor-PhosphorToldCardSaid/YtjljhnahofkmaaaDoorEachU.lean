/-
  A deed done with a span is the deed done with each of its cells; pairs of lines, and a row of such pairs, as letters.
-/
import Derived.Test.YtjljhnahofkmaaaDoorDeedB
import Derived.Test.YtjljhnahofkmaaaDoorDeedD
import Derived.Test.YtjljhnahofkmaaaDoorLineY
namespace Go.Proofs.YtjljhnahofkmaaaDoor

open Go Go.RowKit

theorem each_upd (φ : Cl → Cl) (l : List Cl) (F T : Nat) (hT : T ≤ l.length) : updP (deedC φ F T) l l.length = eachP φ l F (T - F) := by
  by_cases hF : F ≤ T
  · have hlen := eachP_len φ l F (T - F) (by omega)
    refine updP_eq hlen (fun j h1 => ?_)
    unfold eachP deedC
    have ha : (l.take F).length = F := by rw [List.length_take]; omega
    have hb : (((l.drop F).take (T - F)).map φ).length = T - F := by rw [List.length_map, List.length_take, List.length_drop]; omega
    by_cases h2 : j < F
    · rw [if_neg (by omega), List.append_assoc, List.getElem?_append_left (by omega), List.getElem?_take_of_lt h2]
      exact get_self rfl h1
    · by_cases h3 : j < T
      · rw [if_pos ⟨by omega, h3⟩, List.append_assoc, List.getElem?_append_right (by omega), ha, List.getElem?_append_left (by omega), List.getElem?_map, List.getElem?_take_of_lt (by omega), List.getElem?_drop]
        rw [show F + (j - F) = j from by omega, List.getElem?_eq_getElem h1]
        rfl
      · rw [if_neg (by omega), List.append_assoc, List.getElem?_append_right (by omega), ha, List.getElem?_append_right (by omega), hb, List.getElem?_drop]
        exact get_self (by omega) h1
  · rw [show T - F = 0 from by omega, eachP_zero]
    refine updP_eq rfl (fun j h1 => ?_)
    unfold deedC
    rw [if_neg (by omega)]
    exact get_self rfl h1
theorem eachP_size (φ : Cl → Cl) (l : List Cl) (F T : Nat) (hT : T ≤ l.length) : l.length = (eachP φ l F (T - F)).length := by
  rw [← each_upd φ l F T hT, updP_len]
/-- A slice of two lines that both hold L. -/
def PrP (u : Value) : Prop := ∃ g, u = .slice (some ⟨g, 0, none⟩) 2 2
def PrF (B : Nat) (L : List Cl) (size : Int) (u : Value) (W : World) : Prop :=
  ∃ g v1 v2, u = .slice (some ⟨g, 0, none⟩) 2 2 ∧ B ≤ g ∧ Blk W g 28 (unAgg v1 ++ unAgg v2) ∧ LnF B L size v1 W ∧ LnF B L size v2 W
/-- A slice of six such slices. -/
def PsP (u : Value) : Prop := ∃ g, u = .slice (some ⟨g, 0, none⟩) 6 6

theorem prF_stab (ks : Kinds) (wr : World) (L : List Cl) (size : Int) (h : boxes ks = []) : ∀ v w w', Kept ks wr w w' → PrF wr.heap.size L size v w → PrF wr.heap.size L size v w' := by
  rintro v w w' hk ⟨g, v1, v2, e, hg, hb, h1, h2⟩
  exact ⟨g, v1, v2, e, hg, (hk.block g hb.lt hg (fun _ _ _ _ => by rw [h]; simp)).trans hb, lnF_stab ks wr L size (by rw [h]; simp) _ _ _ hk h1, lnF_stab ks wr L size (by rw [h]; simp) _ _ _ hk h2⟩

theorem LnF.next {B : Nat} {L : List Cl} {size : Int} {u : Value} {W W' : World} (h : LnF B L size u W) (hb : Below W.heap.size W W') : LnF B L size u W' := by
  obtain ⟨A, c, base, e, h1, h2⟩ := h
  exact ⟨A, c, base, e, h1, h2.next hb⟩
theorem PrF.next {B : Nat} {L : List Cl} {size : Int} {u : Value} {W W' : World} (h : PrF B L size u W) (hb : Below W.heap.size W W') : PrF B L size u W' := by
  obtain ⟨g, v1, v2, e, hg, h0, h1, h2⟩ := h
  exact ⟨g, v1, v2, e, hg, h0.next hb, h1.next hb, h2.next hb⟩

theorem LnF.as {B : Nat} {L : List Cl} {size : Int} {u : Value} {W : World} (h : LnF B L size u W) : ∃ A c, u = .agg #[.slice A L.length c, .int .i64 size] ∧ RCells W A L := by
  obtain ⟨A, c, base, rfl, _, ho⟩ := h
  exact ⟨A, c, rfl, OCells.reads ho⟩







end Go.Proofs.YtjljhnahofkmaaaDoor

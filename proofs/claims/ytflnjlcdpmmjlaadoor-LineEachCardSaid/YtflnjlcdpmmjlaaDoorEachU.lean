/-
  A deed done with a span is the deed done with each of its cells; pairs of lines, and a row of such pairs, as letters.
-/
import Derived.Test.YtflnjlcdpmmjlaaDoorDeedB
import Derived.Test.YtflnjlcdpmmjlaaDoorDeedD
import Derived.Test.YtflnjlcdpmmjlaaDoorLineY
namespace Go.Proofs.YtflnjlcdpmmjlaaDoor
open Go Go.RowKit

theorem each_upd (φ : Cl → Cl) (l : List Cl) (F T : Nat) (hT : T ≤ l.length) : updP (deedC φ F T) l l.length = eachP φ l F (T - F) := by
  by_cases hF : F ≤ T
  · have hlen := eachP_len φ l F (T - F) (by omega)
    refine updP_eq hlen (fun j h1 => ?_)
    unfold eachP deedC
    have ha : (l.take F).length = F := by rw [List.length_take]; omega
    have hb : (((l.drop F).take (T - F)).map φ).length = T - F := by rw [List.length_map, List.length_take, List.length_drop]; omega
    by_cases h2 : j < F
    · rw [if_neg (by omega), List.append_assoc, List.getElem?_append_left (by omega), List.getElem?_take_of_lt h2]
      exact get_self rfl h1
    · by_cases h3 : j < T
      · rw [if_pos ⟨by omega, h3⟩, List.append_assoc, List.getElem?_append_right (by omega), ha, List.getElem?_append_left (by omega), List.getElem?_map, List.getElem?_take_of_lt (by omega), List.getElem?_drop]
        rw [show F + (j - F) = j from by omega, List.getElem?_eq_getElem h1]
        rfl
      · rw [if_neg (by omega), List.append_assoc, List.getElem?_append_right (by omega), ha, List.getElem?_append_right (by omega), hb, List.getElem?_drop]
        exact get_self (by omega) h1
  · rw [show T - F = 0 from by omega, eachP_zero]
    refine updP_eq rfl (fun j h1 => ?_)
    unfold deedC
    rw [if_neg (by omega)]
    exact get_self rfl h1
theorem eachP_size (φ : Cl → Cl) (l : List Cl) (F T : Nat) (hT : T ≤ l.length) : l.length = (eachP φ l F (T - F)).length := by
  rw [← each_upd φ l F T hT, updP_len]
/-- A slice of two lines that both hold L. -/
def PrP (u : Value) : Prop := ∃ g, u = .slice (some ⟨g, 0, none⟩) 2 2
def PrF (B : Nat) (L : List Cl) (size : Int) (u : Value) (W : World) : Prop :=
  ∃ g v1 v2, u = .slice (some ⟨g, 0, none⟩) 2 2 ∧ B ≤ g ∧ Blk W g 24 (unAgg v1 ++ unAgg v2) ∧ LnF B L size v1 W ∧ LnF B L size v2 W
/-- A slice of six such slices. -/
def PsP (u : Value) : Prop := ∃ g, u = .slice (some ⟨g, 0, none⟩) 6 6
def PsF (B : Nat) (Ls : List (List Cl)) (size : Int) (u : Value) (W : World) : Prop :=
  ∃ (g : Nat) (ss : List Value), u = .slice (some ⟨g, 0, none⟩) 6 6 ∧ B ≤ g ∧ ss.length = 6 ∧ Blk W g 35 ss.toArray ∧ ∀ (i : Nat) (s : Value) (L : List Cl), ss[i]? = some s → Ls[i]? = some L → PrF B L size s W
theorem prF_stab (ks : Kinds) (wr : World) (L : List Cl) (size : Int) (h : boxes ks = []) : ∀ v w w', Kept ks wr w w' → PrF wr.heap.size L size v w → PrF wr.heap.size L size v w' := by
  rintro v w w' hk ⟨g, v1, v2, e, hg, hb, h1, h2⟩
  exact ⟨g, v1, v2, e, hg, (hk.block g hb.lt hg (fun _ _ _ _ => by rw [h]; simp)).trans hb, lnF_stab ks wr L size (by rw [h]; simp) _ _ _ hk h1, lnF_stab ks wr L size (by rw [h]; simp) _ _ _ hk h2⟩
theorem psF_stab (ks : Kinds) (wr : World) (Ls : List (List Cl)) (size : Int) (h : boxes ks = []) : ∀ v w w', Kept ks wr w w' → PsF wr.heap.size Ls size v w → PsF wr.heap.size Ls size v w' := by
  rintro v w w' hk ⟨g, ss, e, hg, hl, hb, h1⟩
  exact ⟨g, ss, e, hg, hl, (hk.block g hb.lt hg (fun _ _ _ _ => by rw [h]; simp)).trans hb, fun i s L a b => prF_stab ks wr L size h _ _ _ hk (h1 i s L a b)⟩
theorem LnF.next {B : Nat} {L : List Cl} {size : Int} {u : Value} {W W' : World} (h : LnF B L size u W) (hb : Below W.heap.size W W') : LnF B L size u W' := by
  obtain ⟨A, c, base, e, h1, h2⟩ := h
  exact ⟨A, c, base, e, h1, h2.next hb⟩
theorem PrF.next {B : Nat} {L : List Cl} {size : Int} {u : Value} {W W' : World} (h : PrF B L size u W) (hb : Below W.heap.size W W') : PrF B L size u W' := by
  obtain ⟨g, v1, v2, e, hg, h0, h1, h2⟩ := h
  exact ⟨g, v1, v2, e, hg, h0.next hb, h1.next hb, h2.next hb⟩
theorem PsF.next {B : Nat} {Ls : List (List Cl)} {size : Int} {u : Value} {W W' : World} (h : PsF B Ls size u W) (hb : Below W.heap.size W W') : PsF B Ls size u W' := by
  obtain ⟨g, ss, e, hg, hl, h0, h1⟩ := h
  exact ⟨g, ss, e, hg, hl, h0.next hb, fun i s L a b => (h1 i s L a b).next hb⟩
theorem LnF.as {B : Nat} {L : List Cl} {size : Int} {u : Value} {W : World} (h : LnF B L size u W) : ∃ A c, u = .agg #[.slice A L.length c, .int .i64 size] ∧ RCells W A L := by
  obtain ⟨A, c, base, rfl, _, ho⟩ := h
  exact ⟨A, c, rfl, OCells.reads ho⟩
/-- A line's box, a span's, a cell's. -/
def KE (w : World) (x y z : Array Value) (w' : World) : Prop := Blk w' w.heap.size 24 x ∧ Blk w' (w.heap.size + 1) 26 y ∧ Blk w' (w.heap.size + 1 + 1) 29 z ∧ Below w.heap.size w w'
theorem KE.start (w : World) (x y z : Array Value) : KE w x y z (((w.alloc (.cells x 24)).alloc (.cells y 26)).alloc (.cells z 29)) := by
  have h2 := Blk.new (w.alloc (.cells x 24)) 26 y
  have h3 := Blk.new ((w.alloc (.cells x 24)).alloc (.cells y 26)) 29 z
  simp at h2 h3
  exact ⟨((Blk.new w _ x).alloc _).alloc _, h2.alloc _, h3, (((Below.refl _ _).alloc (Nat.le_refl _) _).alloc (by simp) _).alloc (by simp; omega) _⟩
theorem KE.next {w W w' : World} {x y z : Array Value} (h : KE w x y z W) (hb : Below W.heap.size W w') : KE w x y z w' := ⟨h.1.next hb, h.2.1.next hb, h.2.2.1.next hb, h.2.2.2.trans (hb.mono h.2.2.2.size)⟩
theorem KE.store1 {w W : World} {a b : Value} {y z : Array Value} (h : KE w #[a, b] y z W) (u v : Value) : KE w #[u, v] y z ((W.setCell ⟨w.heap.size, 0, none⟩ u).setCell ⟨w.heap.size, 1, none⟩ v) :=
  ⟨(h.1.set_ 0 u).set_ 1 v, Blk.far (Blk.far h.2.1 (by simp) _) (by simp) _, Blk.far (Blk.far h.2.2.1 (by simp; omega) _) (by simp; omega) _, (h.2.2.2.setCell (by simp) _).setCell (by simp) _⟩
theorem KE.all {w W : World} {a b c d e x y z : Value} (h : KE w #[a, b] #[c, d, e] #[x, y, z] W) :
    (W.cell? ⟨w.heap.size, 0, none⟩ = some a ∧ W.cell? ⟨w.heap.size, 1, none⟩ = some b) ∧ (W.cell? ⟨w.heap.size + 1, 0, none⟩ = some c ∧ W.cell? ⟨w.heap.size + 1, 1, none⟩ = some d ∧ W.cell? ⟨w.heap.size + 1, 2, none⟩ = some e) ∧ (W.cell? ⟨w.heap.size + 1 + 1, 0, none⟩ = some x ∧ W.cell? ⟨w.heap.size + 1 + 1, 1, none⟩ = some y ∧ W.cell? ⟨w.heap.size + 1 + 1, 2, none⟩ = some z) :=
  ⟨⟨h.1.cell 0, h.1.cell 1⟩, ⟨h.2.1.cell 0, h.2.1.cell 1, h.2.1.cell 2⟩, ⟨h.2.2.1.cell 0, h.2.2.1.cell 1, h.2.2.1.cell 2⟩⟩
theorem KE.fr {w W : World} {x y z : Array Value} (h : KE w x y z W) : W.frozen? ⟨w.heap.size, 0, none⟩ = false ∧ W.frozen? ⟨w.heap.size, 1, none⟩ = false := ⟨h.1.frozen 0, h.1.frozen 1⟩
theorem KE.only {w wr W : World} {x y z : Array Value} (h : KE w x y z wr) (ho : Only [] wr W) : KE w x y z W := h.next ho.below0
end Go.Proofs.YtflnjlcdpmmjlaaDoor

/-
  Lines as letters: what a call of line hands back, wherever it may lie.
-/
import Derived.Test.YtbndnaohjloanaaDoorLineP
import Derived.Test.YtbndnaohjloanaaDoorLineQ
import Derived.Test.YtbndnaohjloanaaDoorLineR
import Derived.Test.YtbndnaohjloanaaDoorLineK
import Derived.Test.YtbndnaohjloanaaDoorLineJ
import Derived.Test.YtbndnaohjloanaaDoorLineN
import Derived.Test.YtbndnaohjloanaaDoorLineH
import Derived.Test.YtbndnaohjloanaaDoorLineG
import Derived.Test.YtbndnaohjloanaaDoorMixE
namespace Go.Proofs.YtbndnaohjloanaaDoor

open Go Go.RowKit

def LnP (n : Nat) (size : Int) (u : Value) : Prop := ∃ A c, u = lineV A n c size ∧ n ≤ c
def LnF (B : Nat) (L : List Cl) (size : Int) (u : Value) (W : World) : Prop := ∃ A c base, u = lineV A L.length c size ∧ B ≤ base ∧ OCells W base (.slice A L.length c) L
theorem ocells_row {w : World} {g : Nat} {l : List Cl} (hl : l.length ≤ 100000) (h : Row w g l) : OCells w g (.slice (some ⟨g, 0, none⟩) l.length l.length) l := by
  refine ⟨flat_len l, .inr ⟨g, l.length, (l.flatMap Cl.cells).toArray, rfl, Nat.le_refl _, h, Nat.le_refl _, by unfold maxLen; omega, (by rw [List.size_toArray]; exact flat_len l), (by rw [List.take_of_length_le (Nat.le_of_eq (flat_len l))])⟩⟩
theorem ocells_capX {w : World} {base : Nat} {A : Option Addr} {n c : Nat} {l : List Cl} (h : OCells w base (.slice A n c) l) : l.length ≤ c := by
  obtain ⟨A', c', e, hc⟩ := OCells.form h
  injection e with _ _ e3
  omega
theorem lnF_stab (ks : Kinds) (wr : World) (L : List Cl) (size : Int) (ht : 45 ∉ boxes ks) : ∀ v w w', Kept ks wr w w' → LnF wr.heap.size L size v w → LnF wr.heap.size L size v w' := by
  rintro v w w' hk ⟨A, c, base, e, hb, ho⟩
  refine ⟨A, c, base, e, hb, ho.1, ?_⟩
  rcases ho.2 with hn | ⟨g, cap, cur, hv, hg, hh, rest⟩
  · exact .inl hn
  · refine .inr ⟨g, cap, cur, hv, hg, ?_, rest⟩
    rw [hk.block g (Blk.lt (show Blk w g _ cur from hh)) (by omega) (fun cs T fr e => by
      have e2 : some (Obj.cells cur 45 (0, 0)) = some (.cells cs T fr) := hh.symm.trans e
      injection e2 with e2
      injection e2 with _ e3 _
      rw [← e3]; exact ht)]
    exact hh
theorem LnF.reads {B : Nat} {L : List Cl} {size : Int} {A : Option Addr} {c n : Nat} {W : World} (hn : n = L.length) (h : LnF B L size (lineV A n c size) W) : RCells W A L := by
  subst hn
  obtain ⟨A', c', base, e, _, ho⟩ := h
  unfold lineV at e
  injection e with e
  injection e with e
  have e2 := List.cons.inj e
  obtain ⟨e3, _⟩ := e2
  injection e3 with e4 e5 e6
  subst e4 e6
  exact OCells.reads ho
section

variable {W : World} {B : Nat} {f : FuncId} {args : Array Value} {n : Nat} {size : Int} {l : List Cl}

/-- What ends in a row of its own. -/
theorem ln_row (hB : B ≤ W.heap.size) (hn : n = l.length) (hl : l.length ≤ 100000) (h : Calls Tryd.prog f args W fun e w' => ∃ g, W.heap.size ≤ g ∧ e = .returned (lineV (some ⟨g, 0, none⟩) n n size) ∧ Row w' g l ∧ Below W.heap.size W w') :
    Calls Tryd.prog f args W fun e w' => ∃ u, e = .returned u ∧ LnP n size u ∧ LnF B l size u w' ∧ Below W.heap.size W w' :=
  h.mono fun e w' ⟨g, hg, he, hr, hb⟩ => ⟨_, he, ⟨_, _, rfl, Nat.le_refl _⟩, ⟨some ⟨g, 0, none⟩, l.length, g, by rw [hn], by omega, ocells_row hl hr⟩, hb⟩
/-- What ends in a slice of its own. -/
theorem ln_own {base : Nat} (hB : B ≤ base) (hn : n = l.length) (h : Calls Tryd.prog f args W fun e w' => ∃ A c, e = .returned (lineV A n c size) ∧ OCells w' base (.slice A n c) l ∧ Below W.heap.size W w') :
    Calls Tryd.prog f args W fun e w' => ∃ u, e = .returned u ∧ LnP n size u ∧ LnF B l size u w' ∧ Below W.heap.size W w' :=
  h.mono fun e w' ⟨A, c, he, ho, hb⟩ => ⟨_, he, ⟨A, c, rfl, by have := ocells_capX ho; omega⟩, ⟨A, c, base, by rw [hn], hB, by subst hn; exact ho⟩, hb⟩
end

def unAgg : Value → Array Value
  | .agg xs => xs
  | _ => #[]
theorem cells2 {w : World} {b : Nat} {T : TypeId} {x y : Value} (h : Blk w b T #[x, y]) : w.cell? ⟨b, 0, none⟩ = some x ∧ w.cell? ⟨b, 1, none⟩ = some y ∧ w.frozen? ⟨b, 0, none⟩ = false ∧ w.frozen? ⟨b, 1, none⟩ = false := ⟨h.cell 0, h.cell 1, h.frozen 0, h.frozen 1⟩
theorem world_genL {P : Program} {c : Code} {Q : Exit → Act → World → Prop} {a : Act} (Φ : World → Prop) {W0 : World} (h : Φ W0) (k : ∀ W, Φ W → c.wp P Q a W) : c.wp P Q a W0 := k _ h
theorem Repl.to {w w' : World} {b : Nat} {T : TypeId} {cs cs' : Array Value} (h : Repl w w' b T cs) (e : cs = cs') : Repl w w' b T cs' := e ▸ h
end Go.Proofs.YtbndnaohjloanaaDoor

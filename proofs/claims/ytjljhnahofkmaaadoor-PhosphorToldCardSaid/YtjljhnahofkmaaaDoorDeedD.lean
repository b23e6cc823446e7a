/-
  The deeds that are done with every cell of a span: erased, cleaned.
-/
import Derived.Test.YtjljhnahofkmaaaDoorDeedC
import Derived.Test.YtjljhnahofkmaaaDoorLineY
namespace Go.Proofs.YtjljhnahofkmaaaDoor

open Go Go.RowKit

theorem LnF.ownD {B n c : Nat} {L : List Cl} {size : Int} {A : Option Addr} {W : World} (h : LnF B L size (lineV A n c size) W) (hn : n = L.length) : OCells W B (.slice A n c) L := by
  obtain ⟨A', c', base, e, hb, ho⟩ := h
  subst hn
  unfold lineV at e
  injection e with e
  injection e with e
  have e2 := List.cons.inj e
  obtain ⟨e3, _⟩ := e2
  injection e3 with e4 e5 e6
  subst e4 e6
  exact World.ownsRow.mono ho hb


end Go.Proofs.YtjljhnahofkmaaaDoor

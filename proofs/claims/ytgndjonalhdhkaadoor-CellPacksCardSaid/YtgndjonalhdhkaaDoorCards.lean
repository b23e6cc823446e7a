/-
  DERIVED. GIVEN WITH THE SEED: THE CARDS: each row of YtgndjonalhdhkaaDoorRows.lean that lists a variable, with what it lists TIED to the program's text (the seventh form; the later family's looks); each row that meets fmt, with fmt's text TOLD by the authors' own Lean function (tested against real Go, not proved from fmt's source: count such statements apart). THE CARD IS WHAT COUNTS. Prove the row's statement (the work); the ties are given (YtgndjonalhdhkaaDoorTie.lean); close each card by the builder's one call (the guide's Derived/Test/ToyasCard.lean, 'card_holds'). Laid BY PROGRAM, IN A SANDBOX (cutbox-door.mjs). By AI agents, Wed Nov 11 2026. No macro, syntax, notation, axiom, sorry.
-/
import Derived.Test.YtgndjonalhdhkaaDoorRows
import GoSem.ClaimSeven
namespace Go.Proofs.YtgndjonalhdhkaaDoor
namespace Rows

/-- THE TIED CARD OF 'phosphorlaw02.CellPacks'. -/
def cellPacksCard : Claim7 := { stood := { row := cellPacksRow, standIns := [], harness := (true, "b7def0d093ab94493f2cf9d5fd3b5f2e0ab6e0fb2a20a034a8e8869462647586"), looks := false }, kinds := [], alts := [], laidByText := true, laidKinds := [.data], laidTests := true, laidLooks := .later }
def CellPacksCardSaid : Prop := Claim7.holds Tryd.pinned (.plain (OpenSpec.ofChange cellPacksSpec)) cellPacksCard

/-- THE TIED CARD OF 'phosphorlaw02.CellKeeps'. -/
def cellKeepsCard : Claim7 := { stood := { row := cellKeepsRow, standIns := [], harness := (true, "b7def0d093ab94493f2cf9d5fd3b5f2e0ab6e0fb2a20a034a8e8869462647586"), looks := false }, kinds := [], alts := [], laidByText := true, laidKinds := [.data], laidTests := true, laidLooks := .later }
def CellKeepsCardSaid : Prop := Claim7.holds Tryd.pinned (.plain (OpenSpec.ofChange cellKeepsSpec)) cellKeepsCard

/-- THE SECOND FORM's CARD OF 'phosphorlaw02.CellPacks'. -/
def cellPacksUptoCard : Claim7 := { stood := { row := cellPacksUptoRow, standIns := [], harness := (true, "b7def0d093ab94493f2cf9d5fd3b5f2e0ab6e0fb2a20a034a8e8869462647586"), looks := false }, kinds := [], alts := [], laidByText := true, laidKinds := [.data], laidTests := true, laidLooks := .later }
def CellPacksUptoCardSaid : Prop := Claim7.holds Tryd.pinned (.plain (OpenSpec.upto cellPacksSpec)) cellPacksUptoCard

/-- THE SECOND FORM's CARD OF 'phosphorlaw02.CellKeeps'. -/
def cellKeepsUptoCard : Claim7 := { stood := { row := cellKeepsUptoRow, standIns := [], harness := (true, "b7def0d093ab94493f2cf9d5fd3b5f2e0ab6e0fb2a20a034a8e8869462647586"), looks := false }, kinds := [], alts := [], laidByText := true, laidKinds := [.data], laidTests := true, laidLooks := .later }
def CellKeepsUptoCardSaid : Prop := Claim7.holds Tryd.pinned (.plain (OpenSpec.upto cellKeepsSpec)) cellKeepsUptoCard
end Rows
end Go.Proofs.YtgndjonalhdhkaaDoor

/-
  DERIVED. GIVEN WITH THE SEED: THE CARDS: each row of YtojdfooocadhoaaGreatDoorRows.lean that lists a variable, with what it lists TIED to the program's text (the seventh form; the later family's looks); each row that meets fmt, with fmt's text TOLD by the authors' own Lean function (tested against real Go, not proved from fmt's source: count such statements apart). THE CARD IS WHAT COUNTS. Prove the row's statement (the work); the ties are given (YtojdfooocadhoaaGreatDoorTie.lean); close each card by the builder's one call (the guide's Derived/Test/ToyasCard.lean, 'card_holds'). Laid BY PROGRAM, IN A SANDBOX (cutbox-door.mjs). By AI agents, Wed Nov 11 2026. No macro, syntax, notation, axiom, sorry.
-/
import Derived.Test.YtojdfooocadhoaaGreatDoorRows
import GoSem.ClaimSeven
namespace Go.Proofs.YtojdfooocadhoaaGreatDoor
namespace Rows

/-- THE TIED CARD OF 'phosphorlaw19.StateCursors'. -/
def stateCursorsCard : Claim7 := { stood := { row := stateCursorsRow, standIns := [], harness := (true, "d05952f12505522b42275ef4ab1b868a97995d8a13f03f47df67f07440eede8d"), looks := false }, kinds := [], alts := [], laidByText := true, laidKinds := [.data, .data, .data, .data, .data, .data, .listed, .data, .data, .pinned], laidTests := true, laidLooks := .later }
def StateCursorsCardSaid : Prop := Claim7.holds Tryz.pinned (.plain (OpenSpec.ofChange stateCursorsSpec)) stateCursorsCard

/-- THE TIED CARD OF 'phosphorlaw19.StateBack'. -/
def stateBackCard : Claim7 := { stood := { row := stateBackRow, standIns := [], harness := (true, "d05952f12505522b42275ef4ab1b868a97995d8a13f03f47df67f07440eede8d"), looks := false }, kinds := [], alts := [], laidByText := true, laidKinds := [.data, .data, .data, .data, .data, .data, .listed, .data, .data, .pinned], laidTests := true, laidLooks := .later }
def StateBackCardSaid : Prop := Claim7.holds Tryz.pinned (.plain (OpenSpec.ofChange stateBackSpec)) stateBackCard

/-- THE TIED CARD OF 'phosphorlaw19.StateReports'. -/
def stateReportsCard : Claim7 := { stood := { row := stateReportsRow, standIns := [], harness := (true, "d05952f12505522b42275ef4ab1b868a97995d8a13f03f47df67f07440eede8d"), looks := false }, kinds := [], alts := [], laidByText := true, laidKinds := [.data, .data, .data, .data, .data, .data], laidTests := true, laidLooks := .later }
def StateReportsCardSaid : Prop := Claim7.holds Tryz.pinned (.plain (OpenSpec.ofChange stateReportsSpec)) stateReportsCard

/-- THE SECOND FORM's CARD OF 'phosphorlaw19.StateCursors'. -/
def stateCursorsUptoCard : Claim7 := { stood := { row := stateCursorsUptoRow, standIns := [], harness := (true, "d05952f12505522b42275ef4ab1b868a97995d8a13f03f47df67f07440eede8d"), looks := false }, kinds := [], alts := [], laidByText := true, laidKinds := [.data, .data, .data, .data, .data, .data, .listed, .data, .data, .pinned], laidTests := true, laidLooks := .later }
def StateCursorsUptoCardSaid : Prop := Claim7.holds Tryz.pinned (.plain (OpenSpec.upto stateCursorsSpec)) stateCursorsUptoCard

/-- THE SECOND FORM's CARD OF 'phosphorlaw19.StateBack'. -/
def stateBackUptoCard : Claim7 := { stood := { row := stateBackUptoRow, standIns := [], harness := (true, "d05952f12505522b42275ef4ab1b868a97995d8a13f03f47df67f07440eede8d"), looks := false }, kinds := [], alts := [], laidByText := true, laidKinds := [.data, .data, .data, .data, .data, .data, .listed, .data, .data, .pinned], laidTests := true, laidLooks := .later }
def StateBackUptoCardSaid : Prop := Claim7.holds Tryz.pinned (.plain (OpenSpec.upto stateBackSpec)) stateBackUptoCard

/-- THE SECOND FORM's CARD OF 'phosphorlaw19.StateReports'. -/
def stateReportsUptoCard : Claim7 := { stood := { row := stateReportsUptoRow, standIns := [], harness := (true, "d05952f12505522b42275ef4ab1b868a97995d8a13f03f47df67f07440eede8d"), looks := false }, kinds := [], alts := [], laidByText := true, laidKinds := [.data, .data, .data, .data, .data, .data], laidTests := true, laidLooks := .later }
def StateReportsUptoCardSaid : Prop := Claim7.holds Tryz.pinned (.plain (OpenSpec.upto stateReportsSpec)) stateReportsUptoCard
end Rows
end Go.Proofs.YtojdfooocadhoaaGreatDoor

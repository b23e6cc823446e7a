/-
  DERIVED. GIVEN WITH THE SEED: THE CARDS: each row of YtnbbepkkedhhgaaGreatDoorRows.lean that lists a variable, with what it lists TIED to the program's text (the seventh form; the later family's looks); each row that meets fmt, with fmt's text TOLD by the authors' own Lean function (tested against real Go, not proved from fmt's source: count such statements apart). THE CARD IS WHAT COUNTS. Prove the row's statement (the work); the ties are given (YtnbbepkkedhhgaaGreatDoorTie.lean); close each card by the builder's one call (the guide's Derived/Test/ToyasCard.lean, 'card_holds'). Laid BY PROGRAM, IN A SANDBOX (cutbox-door.mjs). By AI agents, Wed Nov 11 2026. No macro, syntax, notation, axiom, sorry.
-/
import Derived.Test.YtnbbepkkedhhgaaGreatDoorRows
import GoSem.ClaimSeven
namespace Go.Proofs.YtnbbepkkedhhgaaGreatDoor
namespace Rows

/-- THE TIED CARD OF 'phosphorlaw20.MacroStores'. -/
def macroStoresCard : Claim7 := { stood := { row := macroStoresRow, standIns := [], harness := (true, "28d3d29869ce4d215427a903bdc6b6d03b227eb4e370b53f928b548bc0a53e16"), looks := true }, kinds := [], alts := [], laidByText := true, laidKinds := [.data, .data, .data, .sentinel, .sentinel], laidTests := true, laidLooks := .later }
def MacroStoresCardSaid : Prop := Claim7.holds Tryz.pinned (.plain (OpenSpec.ofChange macroStoresSpec)) macroStoresCard

/-- THE SECOND FORM's CARD OF 'phosphorlaw20.MacroStores'. -/
def macroStoresUptoCard : Claim7 := { stood := { row := macroStoresUptoRow, standIns := [], harness := (true, "28d3d29869ce4d215427a903bdc6b6d03b227eb4e370b53f928b548bc0a53e16"), looks := true }, kinds := [], alts := [], laidByText := true, laidKinds := [.data, .data, .data, .sentinel, .sentinel], laidTests := true, laidLooks := .later }
def MacroStoresUptoCardSaid : Prop := Claim7.holds Tryz.pinned (.plain (OpenSpec.upto macroStoresSpec)) macroStoresUptoCard
end Rows
end Go.Proofs.YtnbbepkkedhhgaaGreatDoor

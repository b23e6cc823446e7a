/-
  DERIVED. GIVEN WITH THE SEED: THE CARDS: each row of YtnbbepkkedhhgaaDoorRows.lean that lists a variable, with what it lists TIED to the program's text (the seventh form; the later family's looks); each row that meets fmt, with fmt's text TOLD by the authors' own Lean function (tested against real Go, not proved from fmt's source: count such statements apart). THE CARD IS WHAT COUNTS. Prove the row's statement (the work); the ties are given (YtnbbepkkedhhgaaDoorTie.lean); close each card by the builder's one call (the guide's Derived/Test/ToyasCard.lean, 'card_holds'). Laid BY PROGRAM, IN A SANDBOX (cutbox-door.mjs). By AI agents, Wed Nov 11 2026. No macro, syntax, notation, axiom, sorry.
-/
import Derived.Test.YtnbbepkkedhhgaaDoorRows
import GoSem.ClaimSeven
namespace Go.Proofs.YtnbbepkkedhhgaaDoor
namespace Rows

/-- THE TIED CARD OF 'phosphorlaw20.MacroFull'. -/
def macroFullCard : Claim7 := { stood := { row := macroFullRow, standIns := [], harness := (true, "163af54d26dd035bb0da967dbdcd7a9960c78c94c13c236799cb152fc831c16e"), looks := true }, kinds := [], alts := [], laidByText := true, laidKinds := [.data, .data, .data, .sentinel, .sentinel], laidTests := true, laidLooks := .later }
def MacroFullCardSaid : Prop := Claim7.holds Tryd.pinned (.plain (OpenSpec.ofChange macroFullSpec)) macroFullCard

/-- THE TIED CARD OF 'phosphortop.PhosphorKept'. -/
def phosphorKeptCard : Claim7 := { stood := { row := phosphorKeptRow, standIns := [], harness := (true, "163af54d26dd035bb0da967dbdcd7a9960c78c94c13c236799cb152fc831c16e"), looks := true }, kinds := [], alts := [], laidByText := true, laidKinds := [.data, .data, .data, .sentinel, .sentinel], laidTests := true, laidLooks := .later }
def PhosphorKeptCardSaid : Prop := Claim7.holds Tryd.pinned (.plain (OpenSpec.ofChange phosphorKeptSpec)) phosphorKeptCard

/-- THE SECOND FORM's CARD OF 'phosphorlaw20.MacroFull'. -/
def macroFullUptoCard : Claim7 := { stood := { row := macroFullUptoRow, standIns := [], harness := (true, "163af54d26dd035bb0da967dbdcd7a9960c78c94c13c236799cb152fc831c16e"), looks := true }, kinds := [], alts := [], laidByText := true, laidKinds := [.data, .data, .data, .sentinel, .sentinel], laidTests := true, laidLooks := .later }
def MacroFullUptoCardSaid : Prop := Claim7.holds Tryd.pinned (.plain (OpenSpec.upto macroFullSpec)) macroFullUptoCard

/-- THE SECOND FORM's CARD OF 'phosphortop.PhosphorKept'. -/
def phosphorKeptUptoCard : Claim7 := { stood := { row := phosphorKeptUptoRow, standIns := [], harness := (true, "163af54d26dd035bb0da967dbdcd7a9960c78c94c13c236799cb152fc831c16e"), looks := true }, kinds := [], alts := [], laidByText := true, laidKinds := [.data, .data, .data, .sentinel, .sentinel], laidTests := true, laidLooks := .later }
def PhosphorKeptUptoCardSaid : Prop := Claim7.holds Tryd.pinned (.plain (OpenSpec.upto phosphorKeptSpec)) phosphorKeptUptoCard
end Rows
end Go.Proofs.YtnbbepkkedhhgaaDoor

/-
  DERIVED. GIVEN WITH THE SEED: THE CARDS: each row of YtmhccngfmjggoaaDoorRows.lean that lists a variable, with what it lists TIED to the program's text (the seventh form; the later family's looks); each row that meets fmt, with fmt's text TOLD by the authors' own Lean function (tested against real Go, not proved from fmt's source: count such statements apart). THE CARD IS WHAT COUNTS. Prove the row's statement (the work); the ties are given (YtmhccngfmjggoaaDoorTie.lean); close each card by the builder's one call (the guide's Derived/Test/ToyasCard.lean, 'card_holds'). Laid BY PROGRAM, IN A SANDBOX (cutbox-door.mjs). By AI agents, Wed Nov 11 2026. No macro, syntax, notation, axiom, sorry.
-/
import Derived.Test.YtmhccngfmjggoaaDoorRows
import GoSem.ClaimSeven
namespace Go.Proofs.YtmhccngfmjggoaaDoor
namespace Rows

/-- THE TIED CARD OF 'phosphorlaw19.StateSettings'. -/
def stateSettingsCard : Claim7 := { stood := { row := stateSettingsRow, standIns := [], harness := (true, "9c14484443c46e07fedcca3939dda6b2034b23c68f51d735c2f6701a543f45dc"), looks := false }, kinds := [], alts := [], laidByText := true, laidKinds := [.data, .data, .data, .data, .data, .data], laidTests := true, laidLooks := .later }
def StateSettingsCardSaid : Prop := Claim7.holds Tryd.pinned (.plain (OpenSpec.ofChange stateSettingsSpec)) stateSettingsCard

/-- THE SECOND FORM's CARD OF 'phosphorlaw19.StateSettings'. -/
def stateSettingsUptoCard : Claim7 := { stood := { row := stateSettingsUptoRow, standIns := [], harness := (true, "9c14484443c46e07fedcca3939dda6b2034b23c68f51d735c2f6701a543f45dc"), looks := false }, kinds := [], alts := [], laidByText := true, laidKinds := [.data, .data, .data, .data, .data, .data], laidTests := true, laidLooks := .later }
def StateSettingsUptoCardSaid : Prop := Claim7.holds Tryd.pinned (.plain (OpenSpec.upto stateSettingsSpec)) stateSettingsUptoCard
end Rows
end Go.Proofs.YtmhccngfmjggoaaDoor

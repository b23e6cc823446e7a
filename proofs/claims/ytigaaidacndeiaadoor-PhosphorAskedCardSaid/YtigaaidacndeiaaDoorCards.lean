/-
  DERIVED. GIVEN WITH THE SEED: THE CARDS: each row of YtigaaidacndeiaaDoorRows.lean that lists a variable, with what it lists TIED to the program's text (the seventh form; the later family's looks); each row that meets fmt, with fmt's text TOLD by the authors' own Lean function (tested against real Go, not proved from fmt's source: count such statements apart). THE CARD IS WHAT COUNTS. Prove the row's statement (the work); the ties are given (YtigaaidacndeiaaDoorTie.lean); close each card by the builder's one call (the guide's Derived/Test/ToyasCard.lean, 'card_holds'). Laid BY PROGRAM, IN A SANDBOX (cutbox-door.mjs). By AI agents, Wed Nov 11 2026. No macro, syntax, notation, axiom, sorry.
-/
import Derived.Test.YtigaaidacndeiaaDoorRows
import GoSem.ClaimSeven
namespace Go.Proofs.YtigaaidacndeiaaDoor
namespace Rows

/-- THE TIED CARD OF 'phosphortop.PhosphorAsked'. -/
def phosphorAskedCard : Claim7 := { stood := { row := phosphorAskedRow, standIns := [], harness := (true, "62f28df13fc6690e05f46c9fe9aa4a15dc9bd454fb85ac052b1128cd0d8b42af"), looks := false }, kinds := [], alts := [], laidByText := true, laidKinds := [.data, .data, .data, .data], laidTests := true, laidLooks := .later }
def PhosphorAskedCardSaid : Prop := Claim7.holds Tryd.pinned (.plain (OpenSpec.ofChange phosphorAskedSpec)) phosphorAskedCard

/-- THE SECOND FORM's CARD OF 'phosphortop.PhosphorAsked'. -/
def phosphorAskedUptoCard : Claim7 := { stood := { row := phosphorAskedUptoRow, standIns := [], harness := (true, "62f28df13fc6690e05f46c9fe9aa4a15dc9bd454fb85ac052b1128cd0d8b42af"), looks := false }, kinds := [], alts := [], laidByText := true, laidKinds := [.data, .data, .data, .data], laidTests := true, laidLooks := .later }
def PhosphorAskedUptoCardSaid : Prop := Claim7.holds Tryd.pinned (.plain (OpenSpec.upto phosphorAskedSpec)) phosphorAskedUptoCard
end Rows
end Go.Proofs.YtigaaidacndeiaaDoor

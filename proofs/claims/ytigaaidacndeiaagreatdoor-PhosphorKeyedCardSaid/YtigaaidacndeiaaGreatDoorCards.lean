/-
  DERIVED. GIVEN WITH THE SEED: THE CARDS: each row of YtigaaidacndeiaaGreatDoorRows.lean that lists a variable, with what it lists TIED to the program's text (the seventh form; the later family's looks); each row that meets fmt, with fmt's text TOLD by the authors' own Lean function (tested against real Go, not proved from fmt's source: count such statements apart). THE CARD IS WHAT COUNTS. Prove the row's statement (the work); the ties are given (YtigaaidacndeiaaGreatDoorTie.lean); close each card by the builder's one call (the guide's Derived/Test/ToyasCard.lean, 'card_holds'). Laid BY PROGRAM, IN A SANDBOX (cutbox-door.mjs). By AI agents, Wed Nov 11 2026. No macro, syntax, notation, axiom, sorry.
-/
import Derived.Test.YtigaaidacndeiaaGreatDoorRows
import GoSem.ClaimSeven
namespace Go.Proofs.YtigaaidacndeiaaGreatDoor
namespace Rows

/-- THE TIED CARD OF 'phosphorlaw18.ReplyFunctions'. -/
def replyFunctionsCard : Claim7 := { stood := { row := replyFunctionsRow, standIns := [], harness := (true, "a850870ff88801673ccb97392f76d8853363bd12f532c709454d906980ceff76"), looks := false }, kinds := [], alts := [], laidByText := true, laidKinds := [.data, .data, .data], laidTests := true, laidLooks := .later }
def ReplyFunctionsCardSaid : Prop := Claim7.holds Tryz.pinned (.plain (OpenSpec.ofChange replyFunctionsSpec)) replyFunctionsCard

/-- THE TIED CARD OF 'phosphorlaw22.KeysApart'. -/
def keysApartCard : Claim7 := { stood := { row := keysApartRow, standIns := [], harness := (true, "a850870ff88801673ccb97392f76d8853363bd12f532c709454d906980ceff76"), looks := false }, kinds := [], alts := [], laidByText := true, laidKinds := [.data, .data, .data, .data, .data], laidTests := true, laidLooks := .later }
def KeysApartCardSaid : Prop := Claim7.holds Tryz.pinned (.plain (OpenSpec.ofChange keysApartSpec)) keysApartCard

/-- THE TIED CARD OF 'phosphortop.PhosphorKeyed'. -/
def phosphorKeyedCard : Claim7 := { stood := { row := phosphorKeyedRow, standIns := [], harness := (true, "a850870ff88801673ccb97392f76d8853363bd12f532c709454d906980ceff76"), looks := false }, kinds := [], alts := [], laidByText := true, laidKinds := [.data, .data, .data, .data, .data], laidTests := true, laidLooks := .later }
def PhosphorKeyedCardSaid : Prop := Claim7.holds Tryz.pinned (.plain (OpenSpec.ofChange phosphorKeyedSpec)) phosphorKeyedCard

/-- THE SECOND FORM's CARD OF 'phosphorlaw18.ReplyFunctions'. -/
def replyFunctionsUptoCard : Claim7 := { stood := { row := replyFunctionsUptoRow, standIns := [], harness := (true, "a850870ff88801673ccb97392f76d8853363bd12f532c709454d906980ceff76"), looks := false }, kinds := [], alts := [], laidByText := true, laidKinds := [.data, .data, .data], laidTests := true, laidLooks := .later }
def ReplyFunctionsUptoCardSaid : Prop := Claim7.holds Tryz.pinned (.plain (OpenSpec.upto replyFunctionsSpec)) replyFunctionsUptoCard

/-- THE SECOND FORM's CARD OF 'phosphorlaw22.KeysApart'. -/
def keysApartUptoCard : Claim7 := { stood := { row := keysApartUptoRow, standIns := [], harness := (true, "a850870ff88801673ccb97392f76d8853363bd12f532c709454d906980ceff76"), looks := false }, kinds := [], alts := [], laidByText := true, laidKinds := [.data, .data, .data, .data, .data], laidTests := true, laidLooks := .later }
def KeysApartUptoCardSaid : Prop := Claim7.holds Tryz.pinned (.plain (OpenSpec.upto keysApartSpec)) keysApartUptoCard

/-- THE SECOND FORM's CARD OF 'phosphortop.PhosphorKeyed'. -/
def phosphorKeyedUptoCard : Claim7 := { stood := { row := phosphorKeyedUptoRow, standIns := [], harness := (true, "a850870ff88801673ccb97392f76d8853363bd12f532c709454d906980ceff76"), looks := false }, kinds := [], alts := [], laidByText := true, laidKinds := [.data, .data, .data, .data, .data], laidTests := true, laidLooks := .later }
def PhosphorKeyedUptoCardSaid : Prop := Claim7.holds Tryz.pinned (.plain (OpenSpec.upto phosphorKeyedSpec)) phosphorKeyedUptoCard
end Rows
end Go.Proofs.YtigaaidacndeiaaGreatDoor

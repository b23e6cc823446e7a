/-
  DERIVED. GIVEN WITH THE SEED: THE CARDS: each row of YtpiliicphoacfaaDoorRows.lean that lists a variable, with what it lists TIED to the program's text (the seventh form; the later family's looks); each row that meets fmt, with fmt's text TOLD by the authors' own Lean function (tested against real Go, not proved from fmt's source: count such statements apart). THE CARD IS WHAT COUNTS. Prove the row's statement (the work); the ties are given (YtpiliicphoacfaaDoorTie.lean); close each card by the builder's one call (the guide's Derived/Test/ToyasCard.lean, 'card_holds'). Laid BY PROGRAM, IN A SANDBOX (cutbox-door.mjs). By AI agents, Wed Nov 11 2026. No macro, syntax, notation, axiom, sorry.
-/
import Derived.Test.YtpiliicphoacfaaDoorRows
import GoSem.ClaimSeven
namespace Go.Proofs.YtpiliicphoacfaaDoor
namespace Rows

/-- THE TIED CARD OF 'phosphorlaw12.ParserBack'. -/
def parserBackCard : Claim7 := { stood := { row := parserBackRow, standIns := [], harness := (true, "3d2182d181c6b11d38ed388343576cec60b629d11f30670aa676df8fefa2c34c"), looks := false }, kinds := [], alts := [], laidByText := true, laidKinds := [.data, .data, .data], laidTests := true, laidLooks := .later }
def ParserBackCardSaid : Prop := Claim7.holds Tryd.pinned (.plain (OpenSpec.ofChange parserBackSpec)) parserBackCard

/-- THE TIED CARD OF 'phosphorlaw18.ReplyPlaces'. -/
def replyPlacesCard : Claim7 := { stood := { row := replyPlacesRow, standIns := [], harness := (true, "3d2182d181c6b11d38ed388343576cec60b629d11f30670aa676df8fefa2c34c"), looks := false }, kinds := [], alts := [], laidByText := true, laidKinds := [.data, .data, .data], laidTests := true, laidLooks := .later }
def ReplyPlacesCardSaid : Prop := Claim7.holds Tryd.pinned (.plain (OpenSpec.ofChange replyPlacesSpec)) replyPlacesCard

/-- THE TIED CARD OF 'phosphortop.PhosphorBits'. -/
def phosphorBitsCard : Claim7 := { stood := { row := phosphorBitsRow, standIns := [], harness := (true, "3d2182d181c6b11d38ed388343576cec60b629d11f30670aa676df8fefa2c34c"), looks := false }, kinds := [], alts := [], laidByText := true, laidKinds := [.data, .data, .data], laidTests := true, laidLooks := .later }
def PhosphorBitsCardSaid : Prop := Claim7.holds Tryd.pinned (.plain (OpenSpec.ofChange phosphorBitsSpec)) phosphorBitsCard

/-- THE SECOND FORM's CARD OF 'phosphorlaw12.ParserBack'. -/
def parserBackUptoCard : Claim7 := { stood := { row := parserBackUptoRow, standIns := [], harness := (true, "3d2182d181c6b11d38ed388343576cec60b629d11f30670aa676df8fefa2c34c"), looks := false }, kinds := [], alts := [], laidByText := true, laidKinds := [.data, .data, .data], laidTests := true, laidLooks := .later }
def ParserBackUptoCardSaid : Prop := Claim7.holds Tryd.pinned (.plain (OpenSpec.upto parserBackSpec)) parserBackUptoCard

/-- THE SECOND FORM's CARD OF 'phosphorlaw18.ReplyPlaces'. -/
def replyPlacesUptoCard : Claim7 := { stood := { row := replyPlacesUptoRow, standIns := [], harness := (true, "3d2182d181c6b11d38ed388343576cec60b629d11f30670aa676df8fefa2c34c"), looks := false }, kinds := [], alts := [], laidByText := true, laidKinds := [.data, .data, .data], laidTests := true, laidLooks := .later }
def ReplyPlacesUptoCardSaid : Prop := Claim7.holds Tryd.pinned (.plain (OpenSpec.upto replyPlacesSpec)) replyPlacesUptoCard

/-- THE SECOND FORM's CARD OF 'phosphortop.PhosphorBits'. -/
def phosphorBitsUptoCard : Claim7 := { stood := { row := phosphorBitsUptoRow, standIns := [], harness := (true, "3d2182d181c6b11d38ed388343576cec60b629d11f30670aa676df8fefa2c34c"), looks := false }, kinds := [], alts := [], laidByText := true, laidKinds := [.data, .data, .data], laidTests := true, laidLooks := .later }
def PhosphorBitsUptoCardSaid : Prop := Claim7.holds Tryd.pinned (.plain (OpenSpec.upto phosphorBitsSpec)) phosphorBitsUptoCard
end Rows
end Go.Proofs.YtpiliicphoacfaaDoor

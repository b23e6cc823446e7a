/-
  DERIVED. GIVEN WITH THE SEED: THE CARDS: each row of YthldjjmfiaeekaaDoorRows.lean that lists a variable, with what it lists TIED to the program's text (the seventh form; the later family's looks); each row that meets fmt, with fmt's text TOLD by the authors' own Lean function (tested against real Go, not proved from fmt's source: count such statements apart). THE CARD IS WHAT COUNTS. Prove the row's statement (the work); the ties are given (YthldjjmfiaeekaaDoorTie.lean); close each card by the builder's one call (the guide's Derived/Test/ToyasCard.lean, 'card_holds'). Laid BY PROGRAM, IN A SANDBOX (cutbox-door.mjs). By AI agents, Wed Nov 11 2026. No macro, syntax, notation, axiom, sorry.
-/
import Derived.Test.YthldjjmfiaeekaaDoorRows
import GoSem.ClaimSeven
namespace Go.Proofs.YthldjjmfiaeekaaDoor
namespace Rows

/-- THE TIED CARD OF 'phosphorlaw18.ReplyHex'. -/
def replyHexCard : Claim7 := { stood := { row := replyHexRow, standIns := [], harness := (true, "eb798308b6ff0d59c5fa2dc17dd7d1dc7e4dd13de878f6d010dd96a9c9328b65"), looks := true }, kinds := [], alts := [], laidByText := true, laidKinds := [.data, .data, .data, .sentinel, .sentinel], laidTests := true, laidLooks := .later }
def ReplyHexCardSaid : Prop := Claim7.holds Tryd.pinned (.plain (OpenSpec.ofChange replyHexSpec)) replyHexCard

/-- THE TIED CARD OF 'phosphorlaw20.MacroDecodes'. -/
def macroDecodesCard : Claim7 := { stood := { row := macroDecodesRow, standIns := [], harness := (true, "eb798308b6ff0d59c5fa2dc17dd7d1dc7e4dd13de878f6d010dd96a9c9328b65"), looks := true }, kinds := [], alts := [], laidByText := true, laidKinds := [.data, .data, .data, .sentinel, .sentinel], laidTests := true, laidLooks := .later }
def MacroDecodesCardSaid : Prop := Claim7.holds Tryd.pinned (.plain (OpenSpec.ofChange macroDecodesSpec)) macroDecodesCard

/-- THE TIED CARD OF 'phosphorlaw20.MacroFull'. -/
def macroFullCard : Claim7 := { stood := { row := macroFullRow, standIns := [], harness := (true, "eb798308b6ff0d59c5fa2dc17dd7d1dc7e4dd13de878f6d010dd96a9c9328b65"), looks := true }, kinds := [], alts := [], laidByText := true, laidKinds := [.data, .data, .data, .sentinel, .sentinel], laidTests := true, laidLooks := .later }
def MacroFullCardSaid : Prop := Claim7.holds Tryd.pinned (.plain (OpenSpec.ofChange macroFullSpec)) macroFullCard

/-- THE TIED CARD OF 'phosphorlaw20.MacroHex'. -/
def macroHexCard : Claim7 := { stood := { row := macroHexRow, standIns := [], harness := (true, "eb798308b6ff0d59c5fa2dc17dd7d1dc7e4dd13de878f6d010dd96a9c9328b65"), looks := true }, kinds := [], alts := [], laidByText := true, laidKinds := [.data, .data, .data, .sentinel, .sentinel], laidTests := true, laidLooks := .later }
def MacroHexCardSaid : Prop := Claim7.holds Tryd.pinned (.plain (OpenSpec.ofChange macroHexSpec)) macroHexCard

/-- THE TIED CARD OF 'phosphorlaw21.UdkPlays'. -/
def udkPlaysCard : Claim7 := { stood := { row := udkPlaysRow, standIns := [], harness := (true, "eb798308b6ff0d59c5fa2dc17dd7d1dc7e4dd13de878f6d010dd96a9c9328b65"), looks := true }, kinds := [], alts := [], laidByText := true, laidKinds := [.data, .data, .data, .data, .sentinel, .sentinel, .data, .pinned], laidTests := true, laidLooks := .later }
def UdkPlaysCardSaid : Prop := Claim7.holds Tryd.pinned (.plain (OpenSpec.ofChange udkPlaysSpec)) udkPlaysCard

/-- THE TIED CARD OF 'phosphorlaw21.UdkFull'. -/
def udkFullCard : Claim7 := { stood := { row := udkFullRow, standIns := [], harness := (true, "eb798308b6ff0d59c5fa2dc17dd7d1dc7e4dd13de878f6d010dd96a9c9328b65"), looks := true }, kinds := [], alts := [], laidByText := true, laidKinds := [.data, .data, .data, .data, .sentinel, .sentinel, .data, .pinned], laidTests := true, laidLooks := .later }
def UdkFullCardSaid : Prop := Claim7.holds Tryd.pinned (.plain (OpenSpec.ofChange udkFullSpec)) udkFullCard

/-- THE TIED CARD OF 'phosphorlaw21.UdkBack'. -/
def udkBackCard : Claim7 := { stood := { row := udkBackRow, standIns := [], harness := (true, "eb798308b6ff0d59c5fa2dc17dd7d1dc7e4dd13de878f6d010dd96a9c9328b65"), looks := true }, kinds := [], alts := [], laidByText := true, laidKinds := [.data, .data, .data, .data, .sentinel, .sentinel, .data, .pinned], laidTests := true, laidLooks := .later }
def UdkBackCardSaid : Prop := Claim7.holds Tryd.pinned (.plain (OpenSpec.ofChange udkBackSpec)) udkBackCard

/-- THE SECOND FORM's CARD OF 'phosphorlaw18.ReplyHex'. -/
def replyHexUptoCard : Claim7 := { stood := { row := replyHexUptoRow, standIns := [], harness := (true, "eb798308b6ff0d59c5fa2dc17dd7d1dc7e4dd13de878f6d010dd96a9c9328b65"), looks := true }, kinds := [], alts := [], laidByText := true, laidKinds := [.data, .data, .data, .sentinel, .sentinel], laidTests := true, laidLooks := .later }
def ReplyHexUptoCardSaid : Prop := Claim7.holds Tryd.pinned (.plain (OpenSpec.upto replyHexSpec)) replyHexUptoCard

/-- THE SECOND FORM's CARD OF 'phosphorlaw20.MacroDecodes'. -/
def macroDecodesUptoCard : Claim7 := { stood := { row := macroDecodesUptoRow, standIns := [], harness := (true, "eb798308b6ff0d59c5fa2dc17dd7d1dc7e4dd13de878f6d010dd96a9c9328b65"), looks := true }, kinds := [], alts := [], laidByText := true, laidKinds := [.data, .data, .data, .sentinel, .sentinel], laidTests := true, laidLooks := .later }
def MacroDecodesUptoCardSaid : Prop := Claim7.holds Tryd.pinned (.plain (OpenSpec.upto macroDecodesSpec)) macroDecodesUptoCard

/-- THE SECOND FORM's CARD OF 'phosphorlaw20.MacroFull'. -/
def macroFullUptoCard : Claim7 := { stood := { row := macroFullUptoRow, standIns := [], harness := (true, "eb798308b6ff0d59c5fa2dc17dd7d1dc7e4dd13de878f6d010dd96a9c9328b65"), looks := true }, kinds := [], alts := [], laidByText := true, laidKinds := [.data, .data, .data, .sentinel, .sentinel], laidTests := true, laidLooks := .later }
def MacroFullUptoCardSaid : Prop := Claim7.holds Tryd.pinned (.plain (OpenSpec.upto macroFullSpec)) macroFullUptoCard

/-- THE SECOND FORM's CARD OF 'phosphorlaw20.MacroHex'. -/
def macroHexUptoCard : Claim7 := { stood := { row := macroHexUptoRow, standIns := [], harness := (true, "eb798308b6ff0d59c5fa2dc17dd7d1dc7e4dd13de878f6d010dd96a9c9328b65"), looks := true }, kinds := [], alts := [], laidByText := true, laidKinds := [.data, .data, .data, .sentinel, .sentinel], laidTests := true, laidLooks := .later }
def MacroHexUptoCardSaid : Prop := Claim7.holds Tryd.pinned (.plain (OpenSpec.upto macroHexSpec)) macroHexUptoCard

/-- THE SECOND FORM's CARD OF 'phosphorlaw21.UdkPlays'. -/
def udkPlaysUptoCard : Claim7 := { stood := { row := udkPlaysUptoRow, standIns := [], harness := (true, "eb798308b6ff0d59c5fa2dc17dd7d1dc7e4dd13de878f6d010dd96a9c9328b65"), looks := true }, kinds := [], alts := [], laidByText := true, laidKinds := [.data, .data, .data, .data, .sentinel, .sentinel, .data, .pinned], laidTests := true, laidLooks := .later }
def UdkPlaysUptoCardSaid : Prop := Claim7.holds Tryd.pinned (.plain (OpenSpec.upto udkPlaysSpec)) udkPlaysUptoCard

/-- THE SECOND FORM's CARD OF 'phosphorlaw21.UdkFull'. -/
def udkFullUptoCard : Claim7 := { stood := { row := udkFullUptoRow, standIns := [], harness := (true, "eb798308b6ff0d59c5fa2dc17dd7d1dc7e4dd13de878f6d010dd96a9c9328b65"), looks := true }, kinds := [], alts := [], laidByText := true, laidKinds := [.data, .data, .data, .data, .sentinel, .sentinel, .data, .pinned], laidTests := true, laidLooks := .later }
def UdkFullUptoCardSaid : Prop := Claim7.holds Tryd.pinned (.plain (OpenSpec.upto udkFullSpec)) udkFullUptoCard

/-- THE SECOND FORM's CARD OF 'phosphorlaw21.UdkBack'. -/
def udkBackUptoCard : Claim7 := { stood := { row := udkBackUptoRow, standIns := [], harness := (true, "eb798308b6ff0d59c5fa2dc17dd7d1dc7e4dd13de878f6d010dd96a9c9328b65"), looks := true }, kinds := [], alts := [], laidByText := true, laidKinds := [.data, .data, .data, .data, .sentinel, .sentinel, .data, .pinned], laidTests := true, laidLooks := .later }
def UdkBackUptoCardSaid : Prop := Claim7.holds Tryd.pinned (.plain (OpenSpec.upto udkBackSpec)) udkBackUptoCard
end Rows
end Go.Proofs.YthldjjmfiaeekaaDoor

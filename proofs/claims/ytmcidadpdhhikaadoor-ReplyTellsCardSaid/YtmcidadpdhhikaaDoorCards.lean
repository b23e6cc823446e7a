/-
  DERIVED. GIVEN WITH THE SEED: THE CARDS: each row of YtmcidadpdhhikaaDoorRows.lean that lists a variable, with what it lists TIED to the program's text (the seventh form; the later family's looks); each row that meets fmt, with fmt's text TOLD by the authors' own Lean function (tested against real Go, not proved from fmt's source: count such statements apart). THE CARD IS WHAT COUNTS. Prove the row's statement (the work); the ties are given (YtmcidadpdhhikaaDoorTie.lean); close each card by the builder's one call (the guide's Derived/Test/ToyasCard.lean, 'card_holds'). Laid BY PROGRAM, IN A SANDBOX (cutbox-door.mjs). By AI agents, Wed Nov 11 2026. No macro, syntax, notation, axiom, sorry.
-/
import Derived.Test.YtmcidadpdhhikaaDoorRows
import GoSem.ClaimSeven
namespace Go.Proofs.YtmcidadpdhhikaaDoor
namespace Rows

/-- THE TIED CARD OF 'phosphorlaw18.ReplyTells'. -/
def replyTellsCard : Claim7 := { stood := { row := replyTellsRow, standIns := [], harness := (true, "f15b51a0ac32d62dca8c6e8677c71d8982c346ee88bd5b1b43c40d45307c1ca0"), looks := true }, kinds := [], alts := [], laidByText := true, laidKinds := [.data, .data, .data], laidTests := true, laidLooks := .later }
def ReplyTellsCardSaid : Prop := Claim7.holds Tryd.pinned (.plain (OpenSpec.ofChange replyTellsSpec)) replyTellsCard

/-- THE TIED CARD OF 'phosphorlaw18.ReplyHex'. -/
def replyHexCard : Claim7 := { stood := { row := replyHexRow, standIns := [], harness := (true, "f15b51a0ac32d62dca8c6e8677c71d8982c346ee88bd5b1b43c40d45307c1ca0"), looks := true }, kinds := [], alts := [], laidByText := true, laidKinds := [.data, .data, .data, .sentinel, .sentinel], laidTests := true, laidLooks := .later }
def ReplyHexCardSaid : Prop := Claim7.holds Tryd.pinned (.plain (OpenSpec.ofChange replyHexSpec)) replyHexCard

/-- THE SECOND FORM's CARD OF 'phosphorlaw18.ReplyTells'. -/
def replyTellsUptoCard : Claim7 := { stood := { row := replyTellsUptoRow, standIns := [], harness := (true, "f15b51a0ac32d62dca8c6e8677c71d8982c346ee88bd5b1b43c40d45307c1ca0"), looks := true }, kinds := [], alts := [], laidByText := true, laidKinds := [.data, .data, .data], laidTests := true, laidLooks := .later }
def ReplyTellsUptoCardSaid : Prop := Claim7.holds Tryd.pinned (.plain (OpenSpec.upto replyTellsSpec)) replyTellsUptoCard

/-- THE SECOND FORM's CARD OF 'phosphorlaw18.ReplyHex'. -/
def replyHexUptoCard : Claim7 := { stood := { row := replyHexUptoRow, standIns := [], harness := (true, "f15b51a0ac32d62dca8c6e8677c71d8982c346ee88bd5b1b43c40d45307c1ca0"), looks := true }, kinds := [], alts := [], laidByText := true, laidKinds := [.data, .data, .data, .sentinel, .sentinel], laidTests := true, laidLooks := .later }
def ReplyHexUptoCardSaid : Prop := Claim7.holds Tryd.pinned (.plain (OpenSpec.upto replyHexSpec)) replyHexUptoCard
end Rows
end Go.Proofs.YtmcidadpdhhikaaDoor

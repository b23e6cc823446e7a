/-
  DERIVED. GIVEN WITH THE SEED: THE CARDS: each row of YtdjbfnhgendacaaDoorRows.lean that lists a variable, with what it lists TIED to the program's text (the seventh form; the later family's looks); each row that meets fmt, with fmt's text TOLD by the authors' own Lean function (tested against real Go, not proved from fmt's source: count such statements apart). THE CARD IS WHAT COUNTS. Prove the row's statement (the work); the ties are given (YtdjbfnhgendacaaDoorTie.lean); close each card by the builder's one call (the guide's Derived/Test/ToyasCard.lean, 'card_holds'). Laid BY PROGRAM, IN A SANDBOX (cutbox-door.mjs). By AI agents, Wed Nov 11 2026. No macro, syntax, notation, axiom, sorry.
-/
import Derived.Test.YtdjbfnhgendacaaDoorRows
import GoSem.ClaimSeven
namespace Go.Proofs.YtdjbfnhgendacaaDoor
namespace Rows

/-- THE TIED CARD OF 'phosphorlaw01.RendApplies'. -/
def rendAppliesCard : Claim7 := { stood := { row := rendAppliesRow, standIns := [], harness := (true, "077e46e047d91db00cc7e1a892e157ddc724a6473eec0a172c628e70c48d40ca"), looks := false }, kinds := [], alts := [], laidByText := true, laidKinds := [.data], laidTests := true, laidLooks := .later }
def RendAppliesCardSaid : Prop := Claim7.holds Tryd.pinned (.plain (OpenSpec.ofChange rendAppliesSpec)) rendAppliesCard

/-- THE TIED CARD OF 'phosphorlaw01.RendFlips'. -/
def rendFlipsCard : Claim7 := { stood := { row := rendFlipsRow, standIns := [], harness := (true, "077e46e047d91db00cc7e1a892e157ddc724a6473eec0a172c628e70c48d40ca"), looks := false }, kinds := [], alts := [], laidByText := true, laidKinds := [.data], laidTests := true, laidLooks := .later }
def RendFlipsCardSaid : Prop := Claim7.holds Tryd.pinned (.plain (OpenSpec.ofChange rendFlipsSpec)) rendFlipsCard

/-- THE TIED CARD OF 'phosphorlaw01.RendParams'. -/
def rendParamsCard : Claim7 := { stood := { row := rendParamsRow, standIns := [], harness := (true, "077e46e047d91db00cc7e1a892e157ddc724a6473eec0a172c628e70c48d40ca"), looks := false }, kinds := [], alts := [], laidByText := true, laidKinds := [.data], laidTests := true, laidLooks := .later }
def RendParamsCardSaid : Prop := Claim7.holds Tryd.pinned (.plain (OpenSpec.ofChange rendParamsSpec)) rendParamsCard

/-- THE TIED CARD OF 'phosphorlaw01.RendLetters'. -/
def rendLettersCard : Claim7 := { stood := { row := rendLettersRow, standIns := [], harness := (true, "077e46e047d91db00cc7e1a892e157ddc724a6473eec0a172c628e70c48d40ca"), looks := false }, kinds := [], alts := [], laidByText := true, laidKinds := [.data], laidTests := true, laidLooks := .later }
def RendLettersCardSaid : Prop := Claim7.holds Tryd.pinned (.plain (OpenSpec.ofChange rendLettersSpec)) rendLettersCard

/-- THE TIED CARD OF 'phosphorlaw01.RendWeights'. -/
def rendWeightsCard : Claim7 := { stood := { row := rendWeightsRow, standIns := [], harness := (true, "077e46e047d91db00cc7e1a892e157ddc724a6473eec0a172c628e70c48d40ca"), looks := false }, kinds := [], alts := [], laidByText := true, laidKinds := [.data], laidTests := true, laidLooks := .later }
def RendWeightsCardSaid : Prop := Claim7.holds Tryd.pinned (.plain (OpenSpec.ofChange rendWeightsSpec)) rendWeightsCard

/-- THE TIED CARD OF 'phosphorlaw01.RendSays'. -/
def rendSaysCard : Claim7 := { stood := { row := rendSaysRow, standIns := [], harness := (true, "077e46e047d91db00cc7e1a892e157ddc724a6473eec0a172c628e70c48d40ca"), looks := false }, kinds := [], alts := [], laidByText := true, laidKinds := [.data], laidTests := true, laidLooks := .later }
def RendSaysCardSaid : Prop := Claim7.holds Tryd.pinned (.plain (OpenSpec.ofChange rendSaysSpec)) rendSaysCard

/-- THE TIED CARD OF 'phosphorlaw02.CellWeighs'. -/
def cellWeighsCard : Claim7 := { stood := { row := cellWeighsRow, standIns := [], harness := (true, "077e46e047d91db00cc7e1a892e157ddc724a6473eec0a172c628e70c48d40ca"), looks := false }, kinds := [], alts := [], laidByText := true, laidKinds := [.data], laidTests := true, laidLooks := .later }
def CellWeighsCardSaid : Prop := Claim7.holds Tryd.pinned (.plain (OpenSpec.ofChange cellWeighsSpec)) cellWeighsCard

/-- THE TIED CARD OF 'phosphorlaw02.CellSums'. -/
def cellSumsCard : Claim7 := { stood := { row := cellSumsRow, standIns := [], harness := (true, "077e46e047d91db00cc7e1a892e157ddc724a6473eec0a172c628e70c48d40ca"), looks := false }, kinds := [], alts := [], laidByText := true, laidKinds := [.data], laidTests := true, laidLooks := .later }
def CellSumsCardSaid : Prop := Claim7.holds Tryd.pinned (.plain (OpenSpec.ofChange cellSumsSpec)) cellSumsCard

/-- THE TIED CARD OF 'phosphorlaw02.CellPacks'. -/
def cellPacksCard : Claim7 := { stood := { row := cellPacksRow, standIns := [], harness := (true, "077e46e047d91db00cc7e1a892e157ddc724a6473eec0a172c628e70c48d40ca"), looks := false }, kinds := [], alts := [], laidByText := true, laidKinds := [.data], laidTests := true, laidLooks := .later }
def CellPacksCardSaid : Prop := Claim7.holds Tryd.pinned (.plain (OpenSpec.ofChange cellPacksSpec)) cellPacksCard

/-- THE TIED CARD OF 'phosphorlaw02.CellKeeps'. -/
def cellKeepsCard : Claim7 := { stood := { row := cellKeepsRow, standIns := [], harness := (true, "077e46e047d91db00cc7e1a892e157ddc724a6473eec0a172c628e70c48d40ca"), looks := false }, kinds := [], alts := [], laidByText := true, laidKinds := [.data], laidTests := true, laidLooks := .later }
def CellKeepsCardSaid : Prop := Claim7.holds Tryd.pinned (.plain (OpenSpec.ofChange cellKeepsSpec)) cellKeepsCard

/-- THE TIED CARD OF 'phosphorlaw02.CellTurns'. -/
def cellTurnsCard : Claim7 := { stood := { row := cellTurnsRow, standIns := [], harness := (true, "077e46e047d91db00cc7e1a892e157ddc724a6473eec0a172c628e70c48d40ca"), looks := false }, kinds := [], alts := [], laidByText := true, laidKinds := [.data], laidTests := true, laidLooks := .later }
def CellTurnsCardSaid : Prop := Claim7.holds Tryd.pinned (.plain (OpenSpec.ofChange cellTurnsSpec)) cellTurnsCard

/-- THE TIED CARD OF 'phosphortop.PhosphorWeighed'. -/
def phosphorWeighedCard : Claim7 := { stood := { row := phosphorWeighedRow, standIns := [], harness := (true, "077e46e047d91db00cc7e1a892e157ddc724a6473eec0a172c628e70c48d40ca"), looks := false }, kinds := [], alts := [], laidByText := true, laidKinds := [.data], laidTests := true, laidLooks := .later }
def PhosphorWeighedCardSaid : Prop := Claim7.holds Tryd.pinned (.plain (OpenSpec.ofChange phosphorWeighedSpec)) phosphorWeighedCard

/-- THE SECOND FORM's CARD OF 'phosphorlaw01.RendApplies'. -/
def rendAppliesUptoCard : Claim7 := { stood := { row := rendAppliesUptoRow, standIns := [], harness := (true, "077e46e047d91db00cc7e1a892e157ddc724a6473eec0a172c628e70c48d40ca"), looks := false }, kinds := [], alts := [], laidByText := true, laidKinds := [.data], laidTests := true, laidLooks := .later }
def RendAppliesUptoCardSaid : Prop := Claim7.holds Tryd.pinned (.plain (OpenSpec.upto rendAppliesSpec)) rendAppliesUptoCard

/-- THE SECOND FORM's CARD OF 'phosphorlaw01.RendFlips'. -/
def rendFlipsUptoCard : Claim7 := { stood := { row := rendFlipsUptoRow, standIns := [], harness := (true, "077e46e047d91db00cc7e1a892e157ddc724a6473eec0a172c628e70c48d40ca"), looks := false }, kinds := [], alts := [], laidByText := true, laidKinds := [.data], laidTests := true, laidLooks := .later }
def RendFlipsUptoCardSaid : Prop := Claim7.holds Tryd.pinned (.plain (OpenSpec.upto rendFlipsSpec)) rendFlipsUptoCard

/-- THE SECOND FORM's CARD OF 'phosphorlaw01.RendParams'. -/
def rendParamsUptoCard : Claim7 := { stood := { row := rendParamsUptoRow, standIns := [], harness := (true, "077e46e047d91db00cc7e1a892e157ddc724a6473eec0a172c628e70c48d40ca"), looks := false }, kinds := [], alts := [], laidByText := true, laidKinds := [.data], laidTests := true, laidLooks := .later }
def RendParamsUptoCardSaid : Prop := Claim7.holds Tryd.pinned (.plain (OpenSpec.upto rendParamsSpec)) rendParamsUptoCard

/-- THE SECOND FORM's CARD OF 'phosphorlaw01.RendLetters'. -/
def rendLettersUptoCard : Claim7 := { stood := { row := rendLettersUptoRow, standIns := [], harness := (true, "077e46e047d91db00cc7e1a892e157ddc724a6473eec0a172c628e70c48d40ca"), looks := false }, kinds := [], alts := [], laidByText := true, laidKinds := [.data], laidTests := true, laidLooks := .later }
def RendLettersUptoCardSaid : Prop := Claim7.holds Tryd.pinned (.plain (OpenSpec.upto rendLettersSpec)) rendLettersUptoCard

/-- THE SECOND FORM's CARD OF 'phosphorlaw01.RendWeights'. -/
def rendWeightsUptoCard : Claim7 := { stood := { row := rendWeightsUptoRow, standIns := [], harness := (true, "077e46e047d91db00cc7e1a892e157ddc724a6473eec0a172c628e70c48d40ca"), looks := false }, kinds := [], alts := [], laidByText := true, laidKinds := [.data], laidTests := true, laidLooks := .later }
def RendWeightsUptoCardSaid : Prop := Claim7.holds Tryd.pinned (.plain (OpenSpec.upto rendWeightsSpec)) rendWeightsUptoCard

/-- THE SECOND FORM's CARD OF 'phosphorlaw01.RendSays'. -/
def rendSaysUptoCard : Claim7 := { stood := { row := rendSaysUptoRow, standIns := [], harness := (true, "077e46e047d91db00cc7e1a892e157ddc724a6473eec0a172c628e70c48d40ca"), looks := false }, kinds := [], alts := [], laidByText := true, laidKinds := [.data], laidTests := true, laidLooks := .later }
def RendSaysUptoCardSaid : Prop := Claim7.holds Tryd.pinned (.plain (OpenSpec.upto rendSaysSpec)) rendSaysUptoCard

/-- THE SECOND FORM's CARD OF 'phosphorlaw02.CellWeighs'. -/
def cellWeighsUptoCard : Claim7 := { stood := { row := cellWeighsUptoRow, standIns := [], harness := (true, "077e46e047d91db00cc7e1a892e157ddc724a6473eec0a172c628e70c48d40ca"), looks := false }, kinds := [], alts := [], laidByText := true, laidKinds := [.data], laidTests := true, laidLooks := .later }
def CellWeighsUptoCardSaid : Prop := Claim7.holds Tryd.pinned (.plain (OpenSpec.upto cellWeighsSpec)) cellWeighsUptoCard

/-- THE SECOND FORM's CARD OF 'phosphorlaw02.CellSums'. -/
def cellSumsUptoCard : Claim7 := { stood := { row := cellSumsUptoRow, standIns := [], harness := (true, "077e46e047d91db00cc7e1a892e157ddc724a6473eec0a172c628e70c48d40ca"), looks := false }, kinds := [], alts := [], laidByText := true, laidKinds := [.data], laidTests := true, laidLooks := .later }
def CellSumsUptoCardSaid : Prop := Claim7.holds Tryd.pinned (.plain (OpenSpec.upto cellSumsSpec)) cellSumsUptoCard

/-- THE SECOND FORM's CARD OF 'phosphorlaw02.CellPacks'. -/
def cellPacksUptoCard : Claim7 := { stood := { row := cellPacksUptoRow, standIns := [], harness := (true, "077e46e047d91db00cc7e1a892e157ddc724a6473eec0a172c628e70c48d40ca"), looks := false }, kinds := [], alts := [], laidByText := true, laidKinds := [.data], laidTests := true, laidLooks := .later }
def CellPacksUptoCardSaid : Prop := Claim7.holds Tryd.pinned (.plain (OpenSpec.upto cellPacksSpec)) cellPacksUptoCard

/-- THE SECOND FORM's CARD OF 'phosphorlaw02.CellKeeps'. -/
def cellKeepsUptoCard : Claim7 := { stood := { row := cellKeepsUptoRow, standIns := [], harness := (true, "077e46e047d91db00cc7e1a892e157ddc724a6473eec0a172c628e70c48d40ca"), looks := false }, kinds := [], alts := [], laidByText := true, laidKinds := [.data], laidTests := true, laidLooks := .later }
def CellKeepsUptoCardSaid : Prop := Claim7.holds Tryd.pinned (.plain (OpenSpec.upto cellKeepsSpec)) cellKeepsUptoCard

/-- THE SECOND FORM's CARD OF 'phosphorlaw02.CellTurns'. -/
def cellTurnsUptoCard : Claim7 := { stood := { row := cellTurnsUptoRow, standIns := [], harness := (true, "077e46e047d91db00cc7e1a892e157ddc724a6473eec0a172c628e70c48d40ca"), looks := false }, kinds := [], alts := [], laidByText := true, laidKinds := [.data], laidTests := true, laidLooks := .later }
def CellTurnsUptoCardSaid : Prop := Claim7.holds Tryd.pinned (.plain (OpenSpec.upto cellTurnsSpec)) cellTurnsUptoCard

/-- THE SECOND FORM's CARD OF 'phosphortop.PhosphorWeighed'. -/
def phosphorWeighedUptoCard : Claim7 := { stood := { row := phosphorWeighedUptoRow, standIns := [], harness := (true, "077e46e047d91db00cc7e1a892e157ddc724a6473eec0a172c628e70c48d40ca"), looks := false }, kinds := [], alts := [], laidByText := true, laidKinds := [.data], laidTests := true, laidLooks := .later }
def PhosphorWeighedUptoCardSaid : Prop := Claim7.holds Tryd.pinned (.plain (OpenSpec.upto phosphorWeighedSpec)) phosphorWeighedUptoCard
end Rows
end Go.Proofs.YtdjbfnhgendacaaDoor

/-
  DERIVED. GIVEN WITH THE SEED: THE CARDS: each row of YtbbimecnobnbeaaDoorRows.lean that lists a variable, with what it lists TIED to the program's text (the seventh form; the later family's looks); each row that meets fmt, with fmt's text TOLD by the authors' own Lean function (tested against real Go, not proved from fmt's source: count such statements apart). THE CARD IS WHAT COUNTS. Prove the row's statement (the work); the ties are given (YtbbimecnobnbeaaDoorTie.lean); close each card by the builder's one call (the guide's Derived/Test/ToyasCard.lean, 'card_holds'). Laid BY PROGRAM, IN A SANDBOX (cutbox-door.mjs). By AI agents, Wed Nov 11 2026. No macro, syntax, notation, axiom, sorry.
-/
import Derived.Test.YtbbimecnobnbeaaDoorRows
import GoSem.ClaimSeven
namespace Go.Proofs.YtbbimecnobnbeaaDoor
namespace Rows

/-- THE TIED CARD OF 'phosphorlaw17.ModeFinds'. -/
def modeFindsCard : Claim7 := { stood := { row := modeFindsRow, standIns := [], harness := (true, "e142e635f6757804d59be38c0ba5718606ffdf61e5ef9bceedf346487a56bfed"), looks := false }, kinds := [], alts := [], laidByText := true, laidKinds := [.data], laidTests := true, laidLooks := .later }
def ModeFindsCardSaid : Prop := Claim7.holds Tryd.pinned (.plain (OpenSpec.ofChange modeFindsSpec)) modeFindsCard

/-- THE TIED CARD OF 'phosphorlaw17.ModeSets'. -/
def modeSetsCard : Claim7 := { stood := { row := modeSetsRow, standIns := [], harness := (true, "e142e635f6757804d59be38c0ba5718606ffdf61e5ef9bceedf346487a56bfed"), looks := false }, kinds := [], alts := [], laidByText := true, laidKinds := [.data], laidTests := true, laidLooks := .later }
def ModeSetsCardSaid : Prop := Claim7.holds Tryd.pinned (.plain (OpenSpec.ofChange modeSetsSpec)) modeSetsCard

/-- THE TIED CARD OF 'phosphorlaw17.ModeAsks'. -/
def modeAsksCard : Claim7 := { stood := { row := modeAsksRow, standIns := [], harness := (true, "e142e635f6757804d59be38c0ba5718606ffdf61e5ef9bceedf346487a56bfed"), looks := false }, kinds := [], alts := [], laidByText := true, laidKinds := [.data], laidTests := true, laidLooks := .later }
def ModeAsksCardSaid : Prop := Claim7.holds Tryd.pinned (.plain (OpenSpec.ofChange modeAsksSpec)) modeAsksCard

/-- THE TIED CARD OF 'phosphorlaw17.ModeWords'. -/
def modeWordsCard : Claim7 := { stood := { row := modeWordsRow, standIns := [], harness := (true, "e142e635f6757804d59be38c0ba5718606ffdf61e5ef9bceedf346487a56bfed"), looks := false }, kinds := [], alts := [], laidByText := true, laidKinds := [.data], laidTests := true, laidLooks := .later }
def ModeWordsCardSaid : Prop := Claim7.holds Tryd.pinned (.plain (OpenSpec.ofChange modeWordsSpec)) modeWordsCard

/-- THE SECOND FORM's CARD OF 'phosphorlaw17.ModeFinds'. -/
def modeFindsUptoCard : Claim7 := { stood := { row := modeFindsUptoRow, standIns := [], harness := (true, "e142e635f6757804d59be38c0ba5718606ffdf61e5ef9bceedf346487a56bfed"), looks := false }, kinds := [], alts := [], laidByText := true, laidKinds := [.data], laidTests := true, laidLooks := .later }
def ModeFindsUptoCardSaid : Prop := Claim7.holds Tryd.pinned (.plain (OpenSpec.upto modeFindsSpec)) modeFindsUptoCard

/-- THE SECOND FORM's CARD OF 'phosphorlaw17.ModeSets'. -/
def modeSetsUptoCard : Claim7 := { stood := { row := modeSetsUptoRow, standIns := [], harness := (true, "e142e635f6757804d59be38c0ba5718606ffdf61e5ef9bceedf346487a56bfed"), looks := false }, kinds := [], alts := [], laidByText := true, laidKinds := [.data], laidTests := true, laidLooks := .later }
def ModeSetsUptoCardSaid : Prop := Claim7.holds Tryd.pinned (.plain (OpenSpec.upto modeSetsSpec)) modeSetsUptoCard

/-- THE SECOND FORM's CARD OF 'phosphorlaw17.ModeAsks'. -/
def modeAsksUptoCard : Claim7 := { stood := { row := modeAsksUptoRow, standIns := [], harness := (true, "e142e635f6757804d59be38c0ba5718606ffdf61e5ef9bceedf346487a56bfed"), looks := false }, kinds := [], alts := [], laidByText := true, laidKinds := [.data], laidTests := true, laidLooks := .later }
def ModeAsksUptoCardSaid : Prop := Claim7.holds Tryd.pinned (.plain (OpenSpec.upto modeAsksSpec)) modeAsksUptoCard

/-- THE SECOND FORM's CARD OF 'phosphorlaw17.ModeWords'. -/
def modeWordsUptoCard : Claim7 := { stood := { row := modeWordsUptoRow, standIns := [], harness := (true, "e142e635f6757804d59be38c0ba5718606ffdf61e5ef9bceedf346487a56bfed"), looks := false }, kinds := [], alts := [], laidByText := true, laidKinds := [.data], laidTests := true, laidLooks := .later }
def ModeWordsUptoCardSaid : Prop := Claim7.holds Tryd.pinned (.plain (OpenSpec.upto modeWordsSpec)) modeWordsUptoCard
end Rows
end Go.Proofs.YtbbimecnobnbeaaDoor

/-
  DERIVED. GIVEN WITH THE SEED: THE CARDS: each row of YtcbhdkcgmkkjmaaDoorRows.lean that lists a variable, with what it lists TIED to the program's text (the seventh form; the later family's looks); each row that meets fmt, with fmt's text TOLD by the authors' own Lean function (tested against real Go, not proved from fmt's source: count such statements apart). THE CARD IS WHAT COUNTS. Prove the row's statement (the work); the ties are given (YtcbhdkcgmkkjmaaDoorTie.lean); close each card by the builder's one call (the guide's Derived/Test/ToyasCard.lean, 'card_holds'). Laid BY PROGRAM, IN A SANDBOX (cutbox-door.mjs). By AI agents, Wed Nov 11 2026. No macro, syntax, notation, axiom, sorry.
-/
import Derived.Test.YtcbhdkcgmkkjmaaDoorRows
import GoSem.ClaimSeven
namespace Go.Proofs.YtcbhdkcgmkkjmaaDoor
namespace Rows

/-- THE TIED CARD OF 'phosphorlaw04.ParamSteps'. -/
def paramStepsCard : Claim7 := { stood := { row := paramStepsRow, standIns := [], harness := (true, "f693654d3777f5acda051efdfd78676b62ea1180d37842b55703fc9335e22e4b"), looks := false }, kinds := [], alts := [], laidByText := true, laidKinds := [.data, .data, .data], laidTests := true, laidLooks := .later }
def ParamStepsCardSaid : Prop := Claim7.holds Tryd.pinned (.plain (OpenSpec.ofChange paramStepsSpec)) paramStepsCard

/-- THE SECOND FORM's CARD OF 'phosphorlaw04.ParamSteps'. -/
def paramStepsUptoCard : Claim7 := { stood := { row := paramStepsUptoRow, standIns := [], harness := (true, "f693654d3777f5acda051efdfd78676b62ea1180d37842b55703fc9335e22e4b"), looks := false }, kinds := [], alts := [], laidByText := true, laidKinds := [.data, .data, .data], laidTests := true, laidLooks := .later }
def ParamStepsUptoCardSaid : Prop := Claim7.holds Tryd.pinned (.plain (OpenSpec.upto paramStepsSpec)) paramStepsUptoCard
end Rows
end Go.Proofs.YtcbhdkcgmkkjmaaDoor

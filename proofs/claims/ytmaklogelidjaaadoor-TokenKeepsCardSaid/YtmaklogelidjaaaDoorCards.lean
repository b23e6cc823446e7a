/-
  DERIVED. GIVEN WITH THE SEED: THE CARDS: each row of YtmaklogelidjaaaDoorRows.lean that lists a variable, with what it lists TIED to the program's text (the seventh form; the later family's looks); each row that meets fmt, with fmt's text TOLD by the authors' own Lean function (tested against real Go, not proved from fmt's source: count such statements apart). THE CARD IS WHAT COUNTS. Prove the row's statement (the work); the ties are given (YtmaklogelidjaaaDoorTie.lean); close each card by the builder's one call (the guide's Derived/Test/ToyasCard.lean, 'card_holds'). Laid BY PROGRAM, IN A SANDBOX (cutbox-door.mjs). By AI agents, Wed Nov 11 2026. No macro, syntax, notation, axiom, sorry.
-/
import Derived.Test.YtmaklogelidjaaaDoorRows
import GoSem.ClaimSeven
namespace Go.Proofs.YtmaklogelidjaaaDoor
namespace Rows

/-- THE TIED CARD OF 'phosphorlaw11.TokenKeeps'. -/
def tokenKeepsCard : Claim7 := { stood := { row := tokenKeepsRow, standIns := [], harness := (true, "61115951080586d12fdbed11b971d184a70ae0ed61ad31d625f64168c7933a00"), looks := false }, kinds := [], alts := [], laidByText := true, laidKinds := [.data, .data, .data], laidTests := true, laidLooks := .later }
def TokenKeepsCardSaid : Prop := Claim7.holds Tryd.pinned (.plain (OpenSpec.ofChange tokenKeepsSpec)) tokenKeepsCard

/-- THE SECOND FORM's CARD OF 'phosphorlaw11.TokenKeeps'. -/
def tokenKeepsUptoCard : Claim7 := { stood := { row := tokenKeepsUptoRow, standIns := [], harness := (true, "61115951080586d12fdbed11b971d184a70ae0ed61ad31d625f64168c7933a00"), looks := false }, kinds := [], alts := [], laidByText := true, laidKinds := [.data, .data, .data], laidTests := true, laidLooks := .later }
def TokenKeepsUptoCardSaid : Prop := Claim7.holds Tryd.pinned (.plain (OpenSpec.upto tokenKeepsSpec)) tokenKeepsUptoCard
end Rows
end Go.Proofs.YtmaklogelidjaaaDoor

/-
  DERIVED. GIVEN WITH THE SEED: THE CARDS: each row of YtbndnaohjloanaaDoorRows.lean that lists a variable, with what it lists TIED to the program's text (the seventh form; the later family's looks); each row that meets fmt, with fmt's text TOLD by the authors' own Lean function (tested against real Go, not proved from fmt's source: count such statements apart). THE CARD IS WHAT COUNTS. Prove the row's statement (the work); the ties are given (YtbndnaohjloanaaDoorTie.lean); close each card by the builder's one call (the guide's Derived/Test/ToyasCard.lean, 'card_holds'). Laid BY PROGRAM, IN A SANDBOX (cutbox-door.mjs). By AI agents, Wed Nov 11 2026. No macro, syntax, notation, axiom, sorry.
-/
import Derived.Test.YtbndnaohjloanaaDoorRows
import GoSem.ClaimSeven
namespace Go.Proofs.YtbndnaohjloanaaDoor
namespace Rows

/-- THE TIED CARD OF 'phosphorlaw03.LineKeeps'. -/
def lineKeepsCard : Claim7 := { stood := { row := lineKeepsRow, standIns := [], harness := (true, "b8bb7a135fce2dbbb4c0b032df454d9ac7bc5edb55bef29ae5ba49f2ce8e9e80"), looks := false }, kinds := [], alts := [], laidByText := true, laidKinds := [.data], laidTests := true, laidLooks := .later }
def LineKeepsCardSaid : Prop := Claim7.holds Tryd.pinned (.plain (OpenSpec.ofChange lineKeepsSpec)) lineKeepsCard

/-- THE SECOND FORM's CARD OF 'phosphorlaw03.LineKeeps'. -/
def lineKeepsUptoCard : Claim7 := { stood := { row := lineKeepsUptoRow, standIns := [], harness := (true, "b8bb7a135fce2dbbb4c0b032df454d9ac7bc5edb55bef29ae5ba49f2ce8e9e80"), looks := false }, kinds := [], alts := [], laidByText := true, laidKinds := [.data], laidTests := true, laidLooks := .later }
def LineKeepsUptoCardSaid : Prop := Claim7.holds Tryd.pinned (.plain (OpenSpec.upto lineKeepsSpec)) lineKeepsUptoCard
end Rows
end Go.Proofs.YtbndnaohjloanaaDoor

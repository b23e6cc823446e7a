/-
  DERIVED. GIVEN WITH THE SEED: THE CARDS: each row of YtfnamfkjbkhgeaaGreatDoorRows.lean that lists a variable, with what it lists TIED to the program's text (the seventh form; the later family's looks); each row that meets fmt, with fmt's text TOLD by the authors' own Lean function (tested against real Go, not proved from fmt's source: count such statements apart). THE CARD IS WHAT COUNTS. Prove the row's statement (the work); the ties are given (YtfnamfkjbkhgeaaGreatDoorTie.lean); close each card by the builder's one call (the guide's Derived/Test/ToyasCard.lean, 'card_holds'). Laid BY PROGRAM, IN A SANDBOX (cutbox-door.mjs). By AI agents, Wed Nov 11 2026. No macro, syntax, notation, axiom, sorry.
-/
import Derived.Test.YtfnamfkjbkhgeaaGreatDoorRows
import GoSem.ClaimSeven
namespace Go.Proofs.YtfnamfkjbkhgeaaGreatDoor
namespace Rows

/-- THE TIED CARD OF 'phosphorlaw19.StateCursors'. -/
def stateCursorsCard : Claim7 := { stood := { row := stateCursorsRow, standIns := [], harness := (true, "fa529cd4fba867c6820ecb0126ae4bcf2147843107140b74706d866c4c12006b"), looks := false }, kinds := [], alts := [], laidByText := true, laidKinds := [.data, .data, .data, .data, .data, .data, .listed, .data, .data, .pinned], laidTests := true, laidLooks := .later }
def StateCursorsCardSaid : Prop := Claim7.holds Tryz.pinned (.plain (OpenSpec.ofChange stateCursorsSpec)) stateCursorsCard

/-- THE TIED CARD OF 'phosphorlaw19.StateBack'. -/
def stateBackCard : Claim7 := { stood := { row := stateBackRow, standIns := [], harness := (true, "fa529cd4fba867c6820ecb0126ae4bcf2147843107140b74706d866c4c12006b"), looks := false }, kinds := [], alts := [], laidByText := true, laidKinds := [.data, .data, .data, .data, .data, .data, .listed, .data, .data, .pinned], laidTests := true, laidLooks := .later }
def StateBackCardSaid : Prop := Claim7.holds Tryz.pinned (.plain (OpenSpec.ofChange stateBackSpec)) stateBackCard

/-- THE TIED CARD OF 'phosphortop.PhosphorSet'. -/
def phosphorSetCard : Claim7 := { stood := { row := phosphorSetRow, standIns := [], harness := (true, "fa529cd4fba867c6820ecb0126ae4bcf2147843107140b74706d866c4c12006b"), looks := false }, kinds := [], alts := [], laidByText := true, laidKinds := [.data, .data, .data, .data, .data], laidTests := true, laidLooks := .later }
def PhosphorSetCardSaid : Prop := Claim7.holds Tryz.pinned (.plain (OpenSpec.ofChange phosphorSetSpec)) phosphorSetCard

/-- THE SECOND FORM's CARD OF 'phosphorlaw19.StateCursors'. -/
def stateCursorsUptoCard : Claim7 := { stood := { row := stateCursorsUptoRow, standIns := [], harness := (true, "fa529cd4fba867c6820ecb0126ae4bcf2147843107140b74706d866c4c12006b"), looks := false }, kinds := [], alts := [], laidByText := true, laidKinds := [.data, .data, .data, .data, .data, .data, .listed, .data, .data, .pinned], laidTests := true, laidLooks := .later }
def StateCursorsUptoCardSaid : Prop := Claim7.holds Tryz.pinned (.plain (OpenSpec.upto stateCursorsSpec)) stateCursorsUptoCard

/-- THE SECOND FORM's CARD OF 'phosphorlaw19.StateBack'. -/
def stateBackUptoCard : Claim7 := { stood := { row := stateBackUptoRow, standIns := [], harness := (true, "fa529cd4fba867c6820ecb0126ae4bcf2147843107140b74706d866c4c12006b"), looks := false }, kinds := [], alts := [], laidByText := true, laidKinds := [.data, .data, .data, .data, .data, .data, .listed, .data, .data, .pinned], laidTests := true, laidLooks := .later }
def StateBackUptoCardSaid : Prop := Claim7.holds Tryz.pinned (.plain (OpenSpec.upto stateBackSpec)) stateBackUptoCard

/-- THE SECOND FORM's CARD OF 'phosphortop.PhosphorSet'. -/
def phosphorSetUptoCard : Claim7 := { stood := { row := phosphorSetUptoRow, standIns := [], harness := (true, "fa529cd4fba867c6820ecb0126ae4bcf2147843107140b74706d866c4c12006b"), looks := false }, kinds := [], alts := [], laidByText := true, laidKinds := [.data, .data, .data, .data, .data], laidTests := true, laidLooks := .later }
def PhosphorSetUptoCardSaid : Prop := Claim7.holds Tryz.pinned (.plain (OpenSpec.upto phosphorSetSpec)) phosphorSetUptoCard
end Rows
end Go.Proofs.YtfnamfkjbkhgeaaGreatDoor

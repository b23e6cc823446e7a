/-
  DERIVED. GIVEN WITH THE SEED: THE CARDS: each row of YtnfdgioapbkonaaDoorRows.lean that lists a variable, with what it lists TIED to the program's text (the seventh form; the later family's looks); each row that meets fmt, with fmt's text TOLD by the authors' own Lean function (tested against real Go, not proved from fmt's source: count such statements apart). THE CARD IS WHAT COUNTS. Prove the row's statement (the work); the ties are given (YtnfdgioapbkonaaDoorTie.lean); close each card by the builder's one call (the guide's Derived/Test/ToyasCard.lean, 'card_holds'). Laid BY PROGRAM, IN A SANDBOX (cutbox-door.mjs). By AI agents, Wed Nov 11 2026. No macro, syntax, notation, axiom, sorry.
-/
import Derived.Test.YtnfdgioapbkonaaDoorRows
import GoSem.ClaimSeven
namespace Go.Proofs.YtnfdgioapbkonaaDoor
namespace Rows

/-- THE TIED CARD OF 'phosphorlaw06.TabsReport'. -/
def tabsReportCard : Claim7 := { stood := { row := tabsReportRow, standIns := [], harness := (true, "839fa7763bf87616ea71c1fe6dde4125d70c595e564b0256840c7796c0c757c4"), looks := false }, kinds := [], alts := [], laidByText := true, laidKinds := [.data, .data, .data], laidTests := true, laidLooks := .later }
def TabsReportCardSaid : Prop := Claim7.holds Tryd.pinned (.plain (OpenSpec.ofChange tabsReportSpec)) tabsReportCard

/-- THE TIED CARD OF 'phosphortop.PhosphorTabbed'. -/
def phosphorTabbedCard : Claim7 := { stood := { row := phosphorTabbedRow, standIns := [], harness := (true, "839fa7763bf87616ea71c1fe6dde4125d70c595e564b0256840c7796c0c757c4"), looks := false }, kinds := [], alts := [], laidByText := true, laidKinds := [.data, .data, .data], laidTests := true, laidLooks := .later }
def PhosphorTabbedCardSaid : Prop := Claim7.holds Tryd.pinned (.plain (OpenSpec.ofChange phosphorTabbedSpec)) phosphorTabbedCard

/-- THE SECOND FORM's CARD OF 'phosphorlaw06.TabsReport'. -/
def tabsReportUptoCard : Claim7 := { stood := { row := tabsReportUptoRow, standIns := [], harness := (true, "839fa7763bf87616ea71c1fe6dde4125d70c595e564b0256840c7796c0c757c4"), looks := false }, kinds := [], alts := [], laidByText := true, laidKinds := [.data, .data, .data], laidTests := true, laidLooks := .later }
def TabsReportUptoCardSaid : Prop := Claim7.holds Tryd.pinned (.plain (OpenSpec.upto tabsReportSpec)) tabsReportUptoCard

/-- THE SECOND FORM's CARD OF 'phosphortop.PhosphorTabbed'. -/
def phosphorTabbedUptoCard : Claim7 := { stood := { row := phosphorTabbedUptoRow, standIns := [], harness := (true, "839fa7763bf87616ea71c1fe6dde4125d70c595e564b0256840c7796c0c757c4"), looks := false }, kinds := [], alts := [], laidByText := true, laidKinds := [.data, .data, .data], laidTests := true, laidLooks := .later }
def PhosphorTabbedUptoCardSaid : Prop := Claim7.holds Tryd.pinned (.plain (OpenSpec.upto phosphorTabbedSpec)) phosphorTabbedUptoCard
end Rows
end Go.Proofs.YtnfdgioapbkonaaDoor

/-
  DERIVED. GIVEN WITH THE SEED: THE CARDS: each row of YtlhabooeeohniaaDoorRows.lean that lists a variable, with what it lists TIED to the program's text (the seventh form; the later family's looks); each row that meets fmt, with fmt's text TOLD by the authors' own Lean function (tested against real Go, not proved from fmt's source: count such statements apart). THE CARD IS WHAT COUNTS. Prove the row's statement (the work); the ties are given (YtlhabooeeohniaaDoorTie.lean); close each card by the builder's one call (the guide's Derived/Test/ToyasCard.lean, 'card_holds'). Laid BY PROGRAM, IN A SANDBOX (cutbox-door.mjs). By AI agents, Wed Nov 11 2026. No macro, syntax, notation, axiom, sorry.
-/
import Derived.Test.YtlhabooeeohniaaDoorRows
import GoSem.ClaimSeven
namespace Go.Proofs.YtlhabooeeohniaaDoor
namespace Rows

/-- THE TIED CARD OF 'phosphorlaw21.UdkPlays'. -/
def udkPlaysCard : Claim7 := { stood := { row := udkPlaysRow, standIns := [], harness := (true, "4a27b1931b956d838a05f241686b5e93d0f04cb042457234f477ca37d9338a65"), looks := true }, kinds := [], alts := [], laidByText := true, laidKinds := [.data, .data, .data, .data, .sentinel, .sentinel, .data, .pinned], laidTests := true, laidLooks := .later }
def UdkPlaysCardSaid : Prop := Claim7.holds Tryd.pinned (.plain (OpenSpec.ofChange udkPlaysSpec)) udkPlaysCard

/-- THE TIED CARD OF 'phosphorlaw21.UdkFull'. -/
def udkFullCard : Claim7 := { stood := { row := udkFullRow, standIns := [], harness := (true, "4a27b1931b956d838a05f241686b5e93d0f04cb042457234f477ca37d9338a65"), looks := true }, kinds := [], alts := [], laidByText := true, laidKinds := [.data, .data, .data, .data, .sentinel, .sentinel, .data, .pinned], laidTests := true, laidLooks := .later }
def UdkFullCardSaid : Prop := Claim7.holds Tryd.pinned (.plain (OpenSpec.ofChange udkFullSpec)) udkFullCard

/-- THE TIED CARD OF 'phosphorlaw21.UdkBack'. -/
def udkBackCard : Claim7 := { stood := { row := udkBackRow, standIns := [], harness := (true, "4a27b1931b956d838a05f241686b5e93d0f04cb042457234f477ca37d9338a65"), looks := true }, kinds := [], alts := [], laidByText := true, laidKinds := [.data, .data, .data, .data, .sentinel, .sentinel, .data, .pinned], laidTests := true, laidLooks := .later }
def UdkBackCardSaid : Prop := Claim7.holds Tryd.pinned (.plain (OpenSpec.ofChange udkBackSpec)) udkBackCard

/-- THE SECOND FORM's CARD OF 'phosphorlaw21.UdkPlays'. -/
def udkPlaysUptoCard : Claim7 := { stood := { row := udkPlaysUptoRow, standIns := [], harness := (true, "4a27b1931b956d838a05f241686b5e93d0f04cb042457234f477ca37d9338a65"), looks := true }, kinds := [], alts := [], laidByText := true, laidKinds := [.data, .data, .data, .data, .sentinel, .sentinel, .data, .pinned], laidTests := true, laidLooks := .later }
def UdkPlaysUptoCardSaid : Prop := Claim7.holds Tryd.pinned (.plain (OpenSpec.upto udkPlaysSpec)) udkPlaysUptoCard

/-- THE SECOND FORM's CARD OF 'phosphorlaw21.UdkFull'. -/
def udkFullUptoCard : Claim7 := { stood := { row := udkFullUptoRow, standIns := [], harness := (true, "4a27b1931b956d838a05f241686b5e93d0f04cb042457234f477ca37d9338a65"), looks := true }, kinds := [], alts := [], laidByText := true, laidKinds := [.data, .data, .data, .data, .sentinel, .sentinel, .data, .pinned], laidTests := true, laidLooks := .later }
def UdkFullUptoCardSaid : Prop := Claim7.holds Tryd.pinned (.plain (OpenSpec.upto udkFullSpec)) udkFullUptoCard

/-- THE SECOND FORM's CARD OF 'phosphorlaw21.UdkBack'. -/
def udkBackUptoCard : Claim7 := { stood := { row := udkBackUptoRow, standIns := [], harness := (true, "4a27b1931b956d838a05f241686b5e93d0f04cb042457234f477ca37d9338a65"), looks := true }, kinds := [], alts := [], laidByText := true, laidKinds := [.data, .data, .data, .data, .sentinel, .sentinel, .data, .pinned], laidTests := true, laidLooks := .later }
def UdkBackUptoCardSaid : Prop := Claim7.holds Tryd.pinned (.plain (OpenSpec.upto udkBackSpec)) udkBackUptoCard
end Rows
end Go.Proofs.YtlhabooeeohniaaDoor

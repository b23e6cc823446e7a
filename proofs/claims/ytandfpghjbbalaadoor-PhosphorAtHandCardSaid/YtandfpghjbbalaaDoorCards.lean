/-
  DERIVED. GIVEN WITH THE SEED: THE CARDS: each row of YtandfpghjbbalaaDoorRows.lean that lists a variable, with what it lists TIED to the program's text (the seventh form; the later family's looks); each row that meets fmt, with fmt's text TOLD by the authors' own Lean function (tested against real Go, not proved from fmt's source: count such statements apart). THE CARD IS WHAT COUNTS. Prove the row's statement (the work); the ties are given (YtandfpghjbbalaaDoorTie.lean); close each card by the builder's one call (the guide's Derived/Test/ToyasCard.lean, 'card_holds'). Laid BY PROGRAM, IN A SANDBOX (cutbox-door.mjs). By AI agents, Wed Nov 11 2026. No macro, syntax, notation, axiom, sorry.
-/
import Derived.Test.YtandfpghjbbalaaDoorRows
import GoSem.ClaimSeven
namespace Go.Proofs.YtandfpghjbbalaaDoor
namespace Rows

/-- THE TIED CARD OF 'phosphorlaw09.CharsetGlyphs'. -/
def charsetGlyphsCard : Claim7 := { stood := { row := charsetGlyphsRow, standIns := [], harness := (true, "c004a2653d22f749e5790306075c11628d32de8176ce4b2563ee8f5e89b663c9"), looks := false }, kinds := [], alts := [], laidByText := true, laidKinds := [.data], laidTests := true, laidLooks := .later }
def CharsetGlyphsCardSaid : Prop := Claim7.holds Tryd.pinned (.plain (OpenSpec.ofChange charsetGlyphsSpec)) charsetGlyphsCard

/-- THE TIED CARD OF 'phosphorlaw09.CharsetFinds'. -/
def charsetFindsCard : Claim7 := { stood := { row := charsetFindsRow, standIns := [], harness := (true, "c004a2653d22f749e5790306075c11628d32de8176ce4b2563ee8f5e89b663c9"), looks := false }, kinds := [], alts := [], laidByText := true, laidKinds := [.listed, .data, .data], laidTests := true, laidLooks := .later }
def CharsetFindsCardSaid : Prop := Claim7.holds Tryd.pinned (.plain (OpenSpec.ofChange charsetFindsSpec)) charsetFindsCard

/-- THE TIED CARD OF 'phosphorlaw09.CharsetIds'. -/
def charsetIdsCard : Claim7 := { stood := { row := charsetIdsRow, standIns := [], harness := (true, "c004a2653d22f749e5790306075c11628d32de8176ce4b2563ee8f5e89b663c9"), looks := false }, kinds := [], alts := [], laidByText := true, laidKinds := [.listed, .data, .data], laidTests := true, laidLooks := .later }
def CharsetIdsCardSaid : Prop := Claim7.holds Tryd.pinned (.plain (OpenSpec.ofChange charsetIdsSpec)) charsetIdsCard

/-- THE TIED CARD OF 'phosphorlaw09.CharsetNations'. -/
def charsetNationsCard : Claim7 := { stood := { row := charsetNationsRow, standIns := [], harness := (true, "c004a2653d22f749e5790306075c11628d32de8176ce4b2563ee8f5e89b663c9"), looks := false }, kinds := [], alts := [], laidByText := true, laidKinds := [.data], laidTests := true, laidLooks := .later }
def CharsetNationsCardSaid : Prop := Claim7.holds Tryd.pinned (.plain (OpenSpec.ofChange charsetNationsSpec)) charsetNationsCard

/-- THE TIED CARD OF 'phosphorlaw09.CharsetShows'. -/
def charsetShowsCard : Claim7 := { stood := { row := charsetShowsRow, standIns := [], harness := (true, "c004a2653d22f749e5790306075c11628d32de8176ce4b2563ee8f5e89b663c9"), looks := false }, kinds := [], alts := [], laidByText := true, laidKinds := [.data], laidTests := true, laidLooks := .later }
def CharsetShowsCardSaid : Prop := Claim7.holds Tryd.pinned (.plain (OpenSpec.ofChange charsetShowsSpec)) charsetShowsCard

/-- THE TIED CARD OF 'phosphorlaw10.IsoOnce'. -/
def isoOnceCard : Claim7 := { stood := { row := isoOnceRow, standIns := [], harness := (true, "c004a2653d22f749e5790306075c11628d32de8176ce4b2563ee8f5e89b663c9"), looks := false }, kinds := [], alts := [], laidByText := true, laidKinds := [.listed, .data, .data], laidTests := true, laidLooks := .later }
def IsoOnceCardSaid : Prop := Claim7.holds Tryd.pinned (.plain (OpenSpec.ofChange isoOnceSpec)) isoOnceCard

/-- THE TIED CARD OF 'phosphorlaw10.IsoReports'. -/
def isoReportsCard : Claim7 := { stood := { row := isoReportsRow, standIns := [], harness := (true, "c004a2653d22f749e5790306075c11628d32de8176ce4b2563ee8f5e89b663c9"), looks := false }, kinds := [], alts := [], laidByText := true, laidKinds := [.listed, .data, .data], laidTests := true, laidLooks := .later }
def IsoReportsCardSaid : Prop := Claim7.holds Tryd.pinned (.plain (OpenSpec.ofChange isoReportsSpec)) isoReportsCard

/-- THE TIED CARD OF 'phosphorlaw10.IsoApart'. -/
def isoApartCard : Claim7 := { stood := { row := isoApartRow, standIns := [], harness := (true, "c004a2653d22f749e5790306075c11628d32de8176ce4b2563ee8f5e89b663c9"), looks := false }, kinds := [], alts := [], laidByText := true, laidKinds := [.listed, .data, .data], laidTests := true, laidLooks := .later }
def IsoApartCardSaid : Prop := Claim7.holds Tryd.pinned (.plain (OpenSpec.ofChange isoApartSpec)) isoApartCard

/-- THE TIED CARD OF 'phosphortop.PhosphorAtHand'. -/
def phosphorAtHandCard : Claim7 := { stood := { row := phosphorAtHandRow, standIns := [], harness := (true, "c004a2653d22f749e5790306075c11628d32de8176ce4b2563ee8f5e89b663c9"), looks := false }, kinds := [], alts := [], laidByText := true, laidKinds := [.listed, .data, .data], laidTests := true, laidLooks := .later }
def PhosphorAtHandCardSaid : Prop := Claim7.holds Tryd.pinned (.plain (OpenSpec.ofChange phosphorAtHandSpec)) phosphorAtHandCard

/-- THE SECOND FORM's CARD OF 'phosphorlaw09.CharsetGlyphs'. -/
def charsetGlyphsUptoCard : Claim7 := { stood := { row := charsetGlyphsUptoRow, standIns := [], harness := (true, "c004a2653d22f749e5790306075c11628d32de8176ce4b2563ee8f5e89b663c9"), looks := false }, kinds := [], alts := [], laidByText := true, laidKinds := [.data], laidTests := true, laidLooks := .later }
def CharsetGlyphsUptoCardSaid : Prop := Claim7.holds Tryd.pinned (.plain (OpenSpec.upto charsetGlyphsSpec)) charsetGlyphsUptoCard

/-- THE SECOND FORM's CARD OF 'phosphorlaw09.CharsetFinds'. -/
def charsetFindsUptoCard : Claim7 := { stood := { row := charsetFindsUptoRow, standIns := [], harness := (true, "c004a2653d22f749e5790306075c11628d32de8176ce4b2563ee8f5e89b663c9"), looks := false }, kinds := [], alts := [], laidByText := true, laidKinds := [.listed, .data, .data], laidTests := true, laidLooks := .later }
def CharsetFindsUptoCardSaid : Prop := Claim7.holds Tryd.pinned (.plain (OpenSpec.upto charsetFindsSpec)) charsetFindsUptoCard

/-- THE SECOND FORM's CARD OF 'phosphorlaw09.CharsetIds'. -/
def charsetIdsUptoCard : Claim7 := { stood := { row := charsetIdsUptoRow, standIns := [], harness := (true, "c004a2653d22f749e5790306075c11628d32de8176ce4b2563ee8f5e89b663c9"), looks := false }, kinds := [], alts := [], laidByText := true, laidKinds := [.listed, .data, .data], laidTests := true, laidLooks := .later }
def CharsetIdsUptoCardSaid : Prop := Claim7.holds Tryd.pinned (.plain (OpenSpec.upto charsetIdsSpec)) charsetIdsUptoCard

/-- THE SECOND FORM's CARD OF 'phosphorlaw09.CharsetNations'. -/
def charsetNationsUptoCard : Claim7 := { stood := { row := charsetNationsUptoRow, standIns := [], harness := (true, "c004a2653d22f749e5790306075c11628d32de8176ce4b2563ee8f5e89b663c9"), looks := false }, kinds := [], alts := [], laidByText := true, laidKinds := [.data], laidTests := true, laidLooks := .later }
def CharsetNationsUptoCardSaid : Prop := Claim7.holds Tryd.pinned (.plain (OpenSpec.upto charsetNationsSpec)) charsetNationsUptoCard

/-- THE SECOND FORM's CARD OF 'phosphorlaw09.CharsetShows'. -/
def charsetShowsUptoCard : Claim7 := { stood := { row := charsetShowsUptoRow, standIns := [], harness := (true, "c004a2653d22f749e5790306075c11628d32de8176ce4b2563ee8f5e89b663c9"), looks := false }, kinds := [], alts := [], laidByText := true, laidKinds := [.data], laidTests := true, laidLooks := .later }
def CharsetShowsUptoCardSaid : Prop := Claim7.holds Tryd.pinned (.plain (OpenSpec.upto charsetShowsSpec)) charsetShowsUptoCard

/-- THE SECOND FORM's CARD OF 'phosphorlaw10.IsoOnce'. -/
def isoOnceUptoCard : Claim7 := { stood := { row := isoOnceUptoRow, standIns := [], harness := (true, "c004a2653d22f749e5790306075c11628d32de8176ce4b2563ee8f5e89b663c9"), looks := false }, kinds := [], alts := [], laidByText := true, laidKinds := [.listed, .data, .data], laidTests := true, laidLooks := .later }
def IsoOnceUptoCardSaid : Prop := Claim7.holds Tryd.pinned (.plain (OpenSpec.upto isoOnceSpec)) isoOnceUptoCard

/-- THE SECOND FORM's CARD OF 'phosphorlaw10.IsoReports'. -/
def isoReportsUptoCard : Claim7 := { stood := { row := isoReportsUptoRow, standIns := [], harness := (true, "c004a2653d22f749e5790306075c11628d32de8176ce4b2563ee8f5e89b663c9"), looks := false }, kinds := [], alts := [], laidByText := true, laidKinds := [.listed, .data, .data], laidTests := true, laidLooks := .later }
def IsoReportsUptoCardSaid : Prop := Claim7.holds Tryd.pinned (.plain (OpenSpec.upto isoReportsSpec)) isoReportsUptoCard

/-- THE SECOND FORM's CARD OF 'phosphorlaw10.IsoApart'. -/
def isoApartUptoCard : Claim7 := { stood := { row := isoApartUptoRow, standIns := [], harness := (true, "c004a2653d22f749e5790306075c11628d32de8176ce4b2563ee8f5e89b663c9"), looks := false }, kinds := [], alts := [], laidByText := true, laidKinds := [.listed, .data, .data], laidTests := true, laidLooks := .later }
def IsoApartUptoCardSaid : Prop := Claim7.holds Tryd.pinned (.plain (OpenSpec.upto isoApartSpec)) isoApartUptoCard

/-- THE SECOND FORM's CARD OF 'phosphortop.PhosphorAtHand'. -/
def phosphorAtHandUptoCard : Claim7 := { stood := { row := phosphorAtHandUptoRow, standIns := [], harness := (true, "c004a2653d22f749e5790306075c11628d32de8176ce4b2563ee8f5e89b663c9"), looks := false }, kinds := [], alts := [], laidByText := true, laidKinds := [.listed, .data, .data], laidTests := true, laidLooks := .later }
def PhosphorAtHandUptoCardSaid : Prop := Claim7.holds Tryd.pinned (.plain (OpenSpec.upto phosphorAtHandSpec)) phosphorAtHandUptoCard
end Rows
end Go.Proofs.YtandfpghjbbalaaDoor

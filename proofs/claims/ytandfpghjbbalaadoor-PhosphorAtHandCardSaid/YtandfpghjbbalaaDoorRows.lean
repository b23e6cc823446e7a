/-
  NARROWER THAN 'FOR EVERY INPUT', by the rows' own cells (each row's printed sentence says how): CharsetGlyphs: laid · CharsetFinds: laid · CharsetIds: laid · CharsetNations: laid · CharsetShows: laid · IsoOnce: laid · IsoReports: laid · IsoApart: laid · PhosphorAtHand: laid.
  DERIVED. THE GIVEN ROWS OF THIS SEAT. 9 by the template 'for every input the law returns true; each argument reads behind the call as it read before'; 0 by the template 'total and deterministic' (their statements: YtandfpghjbbalaaDoorTotals.lean).
  GIVEN WITH THE SEED: the statements are not yours to turn. If you find one false, say at which input.
  Laid BY PROGRAM, IN A SANDBOX (cutbox-rows.mjs): the forced cells as the released guide's own fill.sh prints them over the translation d20f452932c2acf9… (all of the seat's roots in one cut). By AI agents, Wed Nov 11 2026. No macro, syntax, notation, axiom, sorry.
-/
import Derived.Test.YtandfpghjbbalaaDoorChecked
import GoSem.Claim
import GoSem.ClaimJoined
import GoSem.ClaimMapViews
import Derived.JoinedTies
import Derived.KernelRfl
namespace Go.Proofs.YtandfpghjbbalaaDoor
/- THE CELL 'sum', in the pinned program and in every row, IS THE sha256 OF THE DUMP (.gsa) THAT YtandfpghjbbalaaDoorProg.lean LOADS. Nothing in Lean hashes anything: it is a label: what it is worth is what the hold of that sum in a sandbox is worth. -/
noncomputable def Tryd.pinned : Pinned := { name := "ytandfpghjbbalaadoor", sum := "d20f452932c2acf910df80b356be34edbc71bf469404a404863eff691819f729", checked := Tryd.checked }
namespace Rows
def none {H : Type} : Left H := { results := [], args := [] }

/- WHAT THE LISTED PACKAGE-LEVEL VARIABLES READ AS WHEN THE CALL BEGINS. Each datum BY PROGRAM (the guide's laid-datum.mjs) off the statement by which the dump's own 'gosem.cut.vars' lays the variable. In a bare row this is a premise. The card (YtandfpghjbbalaaDoorCards.lean) ties it to the program's text. -/
def laid_phosphor_charset_faces {H : Type} : DataW H := .agg [.agg [.lit (.string []), .lit (.string []), .lit (.bool false), .lit (.int .i32 0)], .agg [.lit (.string [97, 115, 99, 105, 105]), .lit (.string [66]), .lit (.bool false), .lit (.int .i32 0)], .agg [.lit (.string [115, 112, 101, 99, 105, 97, 108]), .lit (.string [48, 32, 50]), .lit (.bool false), .lit (.int .i32 0)], .agg [.lit (.string [116, 101, 99, 104, 110, 105, 99, 97, 108]), .lit (.string [62]), .lit (.bool false), .lit (.int .i32 0)], .agg [.lit (.string [115, 117, 112, 112, 108, 101, 109, 101, 110, 116, 97, 108]), .lit (.string [37, 53]), .lit (.bool false), .lit (.int .i32 128)], .agg [.lit (.string [108, 97, 116, 105, 110]), .lit (.string [65]), .lit (.bool true), .lit (.int .i32 128)], .agg [.lit (.string [98, 114, 105, 116, 105, 115, 104]), .lit (.string [65]), .lit (.bool false), .lit (.int .i32 0)], .agg [.lit (.string [100, 117, 116, 99, 104]), .lit (.string [52]), .lit (.bool false), .lit (.int .i32 0)], .agg [.lit (.string [102, 105, 110, 110, 105, 115, 104]), .lit (.string [53, 32, 67]), .lit (.bool false), .lit (.int .i32 0)], .agg [.lit (.string [102, 114, 101, 110, 99, 104]), .lit (.string [82, 32, 102]), .lit (.bool false), .lit (.int .i32 0)], .agg [.lit (.string [99, 97, 110, 97, 100, 105, 97, 110]), .lit (.string [57, 32, 81]), .lit (.bool false), .lit (.int .i32 0)], .agg [.lit (.string [103, 101, 114, 109, 97, 110]), .lit (.string [75]), .lit (.bool false), .lit (.int .i32 0)], .agg [.lit (.string [105, 116, 97, 108, 105, 97, 110]), .lit (.string [89]), .lit (.bool false), .lit (.int .i32 0)], .agg [.lit (.string [110, 111, 114, 119, 101, 103, 105, 97, 110]), .lit (.string [96, 32, 69, 32, 54]), .lit (.bool false), .lit (.int .i32 0)], .agg [.lit (.string [112, 111, 114, 116, 117, 103, 117, 101, 115, 101]), .lit (.string [37, 54]), .lit (.bool false), .lit (.int .i32 0)], .agg [.lit (.string [115, 112, 97, 110, 105, 115, 104]), .lit (.string [90]), .lit (.bool false), .lit (.int .i32 0)], .agg [.lit (.string [115, 119, 101, 100, 105, 115, 104]), .lit (.string [55, 32, 72]), .lit (.bool false), .lit (.int .i32 0)], .agg [.lit (.string [115, 119, 105, 115, 115]), .lit (.string [61]), .lit (.bool false), .lit (.int .i32 0)]]
def laid_unicode_White_Space {H : Type} : DataW H := .ptr (.agg [.slice [.agg [.lit (.int .u16 9), .lit (.int .u16 13), .lit (.int .u16 1)], .agg [.lit (.int .u16 32), .lit (.int .u16 133), .lit (.int .u16 101)], .agg [.lit (.int .u16 160), .lit (.int .u16 5760), .lit (.int .u16 5600)], .agg [.lit (.int .u16 8192), .lit (.int .u16 8202), .lit (.int .u16 1)], .agg [.lit (.int .u16 8232), .lit (.int .u16 8233), .lit (.int .u16 1)], .agg [.lit (.int .u16 8239), .lit (.int .u16 8287), .lit (.int .u16 48)], .agg [.lit (.int .u16 12288), .lit (.int .u16 12288), .lit (.int .u16 1)]] [], .nil, .lit (.int .i64 2)])
def laid_strings_asciiSpace {H : Type} : DataW H := .agg [.lit (.int .u8 0), .lit (.int .u8 0), .lit (.int .u8 0), .lit (.int .u8 0), .lit (.int .u8 0), .lit (.int .u8 0), .lit (.int .u8 0), .lit (.int .u8 0), .lit (.int .u8 0), .lit (.int .u8 1), .lit (.int .u8 1), .lit (.int .u8 1), .lit (.int .u8 1), .lit (.int .u8 1), .lit (.int .u8 0), .lit (.int .u8 0), .lit (.int .u8 0), .lit (.int .u8 0), .lit (.int .u8 0), .lit (.int .u8 0), .lit (.int .u8 0), .lit (.int .u8 0), .lit (.int .u8 0), .lit (.int .u8 0), .lit (.int .u8 0), .lit (.int .u8 0), .lit (.int .u8 0), .lit (.int .u8 0), .lit (.int .u8 0), .lit (.int .u8 0), .lit (.int .u8 0), .lit (.int .u8 0), .lit (.int .u8 1), .lit (.int .u8 0), .lit (.int .u8 0), .lit (.int .u8 0), .lit (.int .u8 0), .lit (.int .u8 0), .lit (.int .u8 0), .lit (.int .u8 0), .lit (.int .u8 0), .lit (.int .u8 0), .lit (.int .u8 0), .lit (.int .u8 0), .lit (.int .u8 0), .lit (.int .u8 0), .lit (.int .u8 0), .lit (.int .u8 0), .lit (.int .u8 0), .lit (.int .u8 0), .lit (.int .u8 0), .lit (.int .u8 0), .lit (.int .u8 0), .lit (.int .u8 0), .lit (.int .u8 0), .lit (.int .u8 0), .lit (.int .u8 0), .lit (.int .u8 0), .lit (.int .u8 0), .lit (.int .u8 0), .lit (.int .u8 0), .lit (.int .u8 0), .lit (.int .u8 0), .lit (.int .u8 0), .lit (.int .u8 0), .lit (.int .u8 0), .lit (.int .u8 0), .lit (.int .u8 0), .lit (.int .u8 0), .lit (.int .u8 0), .lit (.int .u8 0), .lit (.int .u8 0), .lit (.int .u8 0), .lit (.int .u8 0), .lit (.int .u8 0), .lit (.int .u8 0), .lit (.int .u8 0), .lit (.int .u8 0), .lit (.int .u8 0), .lit (.int .u8 0), .lit (.int .u8 0), .lit (.int .u8 0), .lit (.int .u8 0), .lit (.int .u8 0), .lit (.int .u8 0), .lit (.int .u8 0), .lit (.int .u8 0), .lit (.int .u8 0), .lit (.int .u8 0), .lit (.int .u8 0), .lit (.int .u8 0), .lit (.int .u8 0), .lit (.int .u8 0), .lit (.int .u8 0), .lit (.int .u8 0), .lit (.int .u8 0), .lit (.int .u8 0), .lit (.int .u8 0), .lit (.int .u8 0), .lit (.int .u8 0), .lit (.int .u8 0), .lit (.int .u8 0), .lit (.int .u8 0), .lit (.int .u8 0), .lit (.int .u8 0), .lit (.int .u8 0), .lit (.int .u8 0), .lit (.int .u8 0), .lit (.int .u8 0), .lit (.int .u8 0), .lit (.int .u8 0), .lit (.int .u8 0), .lit (.int .u8 0), .lit (.int .u8 0), .lit (.int .u8 0), .lit (.int .u8 0), .lit (.int .u8 0), .lit (.int .u8 0), .lit (.int .u8 0), .lit (.int .u8 0), .lit (.int .u8 0), .lit (.int .u8 0), .lit (.int .u8 0), .lit (.int .u8 0), .lit (.int .u8 0), .lit (.int .u8 0), .lit (.int .u8 0), .lit (.int .u8 0), .lit (.int .u8 0), .lit (.int .u8 0), .lit (.int .u8 0), .lit (.int .u8 0), .lit (.int .u8 0), .lit (.int .u8 0), .lit (.int .u8 0), .lit (.int .u8 0), .lit (.int .u8 0), .lit (.int .u8 0), .lit (.int .u8 0), .lit (.int .u8 0), .lit (.int .u8 0), .lit (.int .u8 0), .lit (.int .u8 0), .lit (.int .u8 0), .lit (.int .u8 0), .lit (.int .u8 0), .lit (.int .u8 0), .lit (.int .u8 0), .lit (.int .u8 0), .lit (.int .u8 0), .lit (.int .u8 0), .lit (.int .u8 0), .lit (.int .u8 0), .lit (.int .u8 0), .lit (.int .u8 0), .lit (.int .u8 0), .lit (.int .u8 0), .lit (.int .u8 0), .lit (.int .u8 0), .lit (.int .u8 0), .lit (.int .u8 0), .lit (.int .u8 0), .lit (.int .u8 0), .lit (.int .u8 0), .lit (.int .u8 0), .lit (.int .u8 0), .lit (.int .u8 0), .lit (.int .u8 0), .lit (.int .u8 0), .lit (.int .u8 0), .lit (.int .u8 0), .lit (.int .u8 0), .lit (.int .u8 0), .lit (.int .u8 0), .lit (.int .u8 0), .lit (.int .u8 0), .lit (.int .u8 0), .lit (.int .u8 0), .lit (.int .u8 0), .lit (.int .u8 0), .lit (.int .u8 0), .lit (.int .u8 0), .lit (.int .u8 0), .lit (.int .u8 0), .lit (.int .u8 0), .lit (.int .u8 0), .lit (.int .u8 0), .lit (.int .u8 0), .lit (.int .u8 0), .lit (.int .u8 0), .lit (.int .u8 0), .lit (.int .u8 0), .lit (.int .u8 0), .lit (.int .u8 0), .lit (.int .u8 0), .lit (.int .u8 0), .lit (.int .u8 0), .lit (.int .u8 0), .lit (.int .u8 0), .lit (.int .u8 0), .lit (.int .u8 0), .lit (.int .u8 0), .lit (.int .u8 0), .lit (.int .u8 0), .lit (.int .u8 0), .lit (.int .u8 0), .lit (.int .u8 0), .lit (.int .u8 0), .lit (.int .u8 0), .lit (.int .u8 0), .lit (.int .u8 0), .lit (.int .u8 0), .lit (.int .u8 0), .lit (.int .u8 0), .lit (.int .u8 0), .lit (.int .u8 0), .lit (.int .u8 0), .lit (.int .u8 0), .lit (.int .u8 0), .lit (.int .u8 0), .lit (.int .u8 0), .lit (.int .u8 0), .lit (.int .u8 0), .lit (.int .u8 0), .lit (.int .u8 0), .lit (.int .u8 0), .lit (.int .u8 0), .lit (.int .u8 0), .lit (.int .u8 0), .lit (.int .u8 0), .lit (.int .u8 0), .lit (.int .u8 0), .lit (.int .u8 0), .lit (.int .u8 0), .lit (.int .u8 0), .lit (.int .u8 0), .lit (.int .u8 0), .lit (.int .u8 0), .lit (.int .u8 0), .lit (.int .u8 0), .lit (.int .u8 0), .lit (.int .u8 0), .lit (.int .u8 0), .lit (.int .u8 0), .lit (.int .u8 0), .lit (.int .u8 0), .lit (.int .u8 0), .lit (.int .u8 0), .lit (.int .u8 0), .lit (.int .u8 0), .lit (.int .u8 0), .lit (.int .u8 0), .lit (.int .u8 0), .lit (.int .u8 0), .lit (.int .u8 0), .lit (.int .u8 0)]

/-- 'phosphorlaw09.CharsetGlyphs': WHATEVER THE INPUT: true; the input reads as it did. -/
def charsetGlyphsSpec : ChangeSpec := { name := "charsetGlyphs", fn := fun _ => fun
  | [d1, d2] => { results := [.lit (.bool true)], args := [d1, d2] }
  | _ => none }
def charsetGlyphsRow : OpenClaim := { program := "ytandfpghjbbalaadoor", sum := "d20f452932c2acf910df80b356be34edbc71bf469404a404863eff691819f729", func := "phosphor/phosphorlaw09.CharsetGlyphs", spec := "charsetGlyphs", inPlace := ["internal/bytealg.IndexByteString"], named := ["phosphor/charset.faces"], apart := false, laid := [("phosphor/charset.faces", laid_phosphor_charset_faces)] }
def CharsetGlyphsSaid : Prop := charsetGlyphsRow.holds Tryd.pinned (OpenSpec.ofChange charsetGlyphsSpec)

/-- ITS FALSE NEIGHBOUR: 'it returns false'. Refute it at one input. -/
def charsetGlyphsWrong : ChangeSpec := { name := "charsetGlyphs", fn := fun _ => fun
  | [d1, d2] => { results := [.lit (.bool false)], args := [d1, d2] }
  | _ => none }
def CharsetGlyphsWrongFalsely : Prop := charsetGlyphsRow.holds Tryd.pinned (OpenSpec.ofChange charsetGlyphsWrong)

/-- 'phosphorlaw09.CharsetFinds': WHATEVER THE INPUT: true; the input reads as it did. -/
def charsetFindsSpec : ChangeSpec := { name := "charsetFinds", fn := fun _ => fun
  | [d1, d2] => { results := [.lit (.bool true)], args := [d1, d2] }
  | _ => none }
def charsetFindsRow : OpenClaim := { program := "ytandfpghjbbalaadoor", sum := "d20f452932c2acf910df80b356be34edbc71bf469404a404863eff691819f729", func := "phosphor/phosphorlaw09.CharsetFinds", spec := "charsetFinds", inPlace := ["internal/bytealg.IndexByteString", "internal/bytealg.IndexString"], unfollowed := true, recurses := true, named := ["phosphor/charset.faces", "strings.asciiSpace", "unicode.White_Space", "internal/bytealg.MaxLen"], apart := false, laid := [("unicode.White_Space", laid_unicode_White_Space), ("strings.asciiSpace", laid_strings_asciiSpace), ("phosphor/charset.faces", laid_phosphor_charset_faces)] }
def CharsetFindsSaid : Prop := charsetFindsRow.holds Tryd.pinned (OpenSpec.ofChange charsetFindsSpec)

/-- ITS FALSE NEIGHBOUR: 'it returns false'. Refute it at one input. -/
def charsetFindsWrong : ChangeSpec := { name := "charsetFinds", fn := fun _ => fun
  | [d1, d2] => { results := [.lit (.bool false)], args := [d1, d2] }
  | _ => none }
def CharsetFindsWrongFalsely : Prop := charsetFindsRow.holds Tryd.pinned (OpenSpec.ofChange charsetFindsWrong)

/-- 'phosphorlaw09.CharsetIds': WHATEVER THE INPUT: true; the input reads as it did. -/
def charsetIdsSpec : ChangeSpec := { name := "charsetIds", fn := fun _ => fun
  | [d] => { results := [.lit (.bool true)], args := [d] }
  | _ => none }
def charsetIdsRow : OpenClaim := { program := "ytandfpghjbbalaadoor", sum := "d20f452932c2acf910df80b356be34edbc71bf469404a404863eff691819f729", func := "phosphor/phosphorlaw09.CharsetIds", spec := "charsetIds", inPlace := ["internal/bytealg.IndexByteString", "internal/bytealg.IndexString"], unfollowed := true, recurses := true, named := ["phosphor/charset.faces", "internal/bytealg.MaxLen", "strings.asciiSpace", "unicode.White_Space"], apart := false, laid := [("unicode.White_Space", laid_unicode_White_Space), ("strings.asciiSpace", laid_strings_asciiSpace), ("phosphor/charset.faces", laid_phosphor_charset_faces)] }
def CharsetIdsSaid : Prop := charsetIdsRow.holds Tryd.pinned (OpenSpec.ofChange charsetIdsSpec)

/-- ITS FALSE NEIGHBOUR: 'it returns false'. Refute it at one input. -/
def charsetIdsWrong : ChangeSpec := { name := "charsetIds", fn := fun _ => fun
  | [d] => { results := [.lit (.bool false)], args := [d] }
  | _ => none }
def CharsetIdsWrongFalsely : Prop := charsetIdsRow.holds Tryd.pinned (OpenSpec.ofChange charsetIdsWrong)

/-- 'phosphorlaw09.CharsetNations': WHATEVER THE INPUT: true; the input reads as it did. -/
def charsetNationsSpec : ChangeSpec := { name := "charsetNations", fn := fun _ => fun
  | [d] => { results := [.lit (.bool true)], args := [d] }
  | _ => none }
def charsetNationsRow : OpenClaim := { program := "ytandfpghjbbalaadoor", sum := "d20f452932c2acf910df80b356be34edbc71bf469404a404863eff691819f729", func := "phosphor/phosphorlaw09.CharsetNations", spec := "charsetNations", inPlace := ["internal/bytealg.IndexByteString"], named := ["phosphor/charset.faces"], apart := false, laid := [("phosphor/charset.faces", laid_phosphor_charset_faces)] }
def CharsetNationsSaid : Prop := charsetNationsRow.holds Tryd.pinned (OpenSpec.ofChange charsetNationsSpec)

/-- ITS FALSE NEIGHBOUR: 'it returns false'. Refute it at one input. -/
def charsetNationsWrong : ChangeSpec := { name := "charsetNations", fn := fun _ => fun
  | [d] => { results := [.lit (.bool false)], args := [d] }
  | _ => none }
def CharsetNationsWrongFalsely : Prop := charsetNationsRow.holds Tryd.pinned (OpenSpec.ofChange charsetNationsWrong)

/-- 'phosphorlaw09.CharsetShows': WHATEVER THE INPUT: true; the input reads as it did. -/
def charsetShowsSpec : ChangeSpec := { name := "charsetShows", fn := fun _ => fun
  | [d] => { results := [.lit (.bool true)], args := [d] }
  | _ => none }
def charsetShowsRow : OpenClaim := { program := "ytandfpghjbbalaadoor", sum := "d20f452932c2acf910df80b356be34edbc71bf469404a404863eff691819f729", func := "phosphor/phosphorlaw09.CharsetShows", spec := "charsetShows", inPlace := ["internal/bytealg.IndexByteString", "internal/bytealg.IndexString"], named := ["phosphor/charset.faces", "internal/bytealg.MaxLen"], apart := false, laid := [("phosphor/charset.faces", laid_phosphor_charset_faces)] }
def CharsetShowsSaid : Prop := charsetShowsRow.holds Tryd.pinned (OpenSpec.ofChange charsetShowsSpec)

/-- ITS FALSE NEIGHBOUR: 'it returns false'. Refute it at one input. -/
def charsetShowsWrong : ChangeSpec := { name := "charsetShows", fn := fun _ => fun
  | [d] => { results := [.lit (.bool false)], args := [d] }
  | _ => none }
def CharsetShowsWrongFalsely : Prop := charsetShowsRow.holds Tryd.pinned (OpenSpec.ofChange charsetShowsWrong)

/-- 'phosphorlaw10.IsoOnce': WHATEVER THE INPUT: true; the input reads as it did. -/
def isoOnceSpec : ChangeSpec := { name := "isoOnce", fn := fun _ => fun
  | [d1, d2, d3] => { results := [.lit (.bool true)], args := [d1, d2, d3] }
  | _ => none }
def isoOnceRow : OpenClaim := { program := "ytandfpghjbbalaadoor", sum := "d20f452932c2acf910df80b356be34edbc71bf469404a404863eff691819f729", func := "phosphor/phosphorlaw10.IsoOnce", spec := "isoOnce", inPlace := ["internal/bytealg.IndexByteString", "internal/bytealg.IndexString"], unfollowed := true, recurses := true, named := ["phosphor/charset.faces", "strings.asciiSpace", "unicode.White_Space", "internal/bytealg.MaxLen"], apart := false, laid := [("unicode.White_Space", laid_unicode_White_Space), ("strings.asciiSpace", laid_strings_asciiSpace), ("phosphor/charset.faces", laid_phosphor_charset_faces)] }
def IsoOnceSaid : Prop := isoOnceRow.holds Tryd.pinned (OpenSpec.ofChange isoOnceSpec)

/-- ITS FALSE NEIGHBOUR: 'it returns false'. Refute it at one input. -/
def isoOnceWrong : ChangeSpec := { name := "isoOnce", fn := fun _ => fun
  | [d1, d2, d3] => { results := [.lit (.bool false)], args := [d1, d2, d3] }
  | _ => none }
def IsoOnceWrongFalsely : Prop := isoOnceRow.holds Tryd.pinned (OpenSpec.ofChange isoOnceWrong)

/-- 'phosphorlaw10.IsoReports': WHATEVER THE INPUT: true; the input reads as it did. -/
def isoReportsSpec : ChangeSpec := { name := "isoReports", fn := fun _ => fun
  | [d1, d2, d3] => { results := [.lit (.bool true)], args := [d1, d2, d3] }
  | _ => none }
def isoReportsRow : OpenClaim := { program := "ytandfpghjbbalaadoor", sum := "d20f452932c2acf910df80b356be34edbc71bf469404a404863eff691819f729", func := "phosphor/phosphorlaw10.IsoReports", spec := "isoReports", inPlace := ["internal/bytealg.IndexByteString", "internal/bytealg.IndexString"], unfollowed := true, recurses := true, named := ["phosphor/charset.faces", "strings.asciiSpace", "unicode.White_Space", "internal/bytealg.MaxLen"], apart := false, laid := [("unicode.White_Space", laid_unicode_White_Space), ("strings.asciiSpace", laid_strings_asciiSpace), ("phosphor/charset.faces", laid_phosphor_charset_faces)] }
def IsoReportsSaid : Prop := isoReportsRow.holds Tryd.pinned (OpenSpec.ofChange isoReportsSpec)

/-- ITS FALSE NEIGHBOUR: 'it returns false'. Refute it at one input. -/
def isoReportsWrong : ChangeSpec := { name := "isoReports", fn := fun _ => fun
  | [d1, d2, d3] => { results := [.lit (.bool false)], args := [d1, d2, d3] }
  | _ => none }
def IsoReportsWrongFalsely : Prop := isoReportsRow.holds Tryd.pinned (OpenSpec.ofChange isoReportsWrong)

/-- 'phosphorlaw10.IsoApart': WHATEVER THE INPUT: true; the input reads as it did. -/
def isoApartSpec : ChangeSpec := { name := "isoApart", fn := fun _ => fun
  | [d1, d2, d3] => { results := [.lit (.bool true)], args := [d1, d2, d3] }
  | _ => none }
def isoApartRow : OpenClaim := { program := "ytandfpghjbbalaadoor", sum := "d20f452932c2acf910df80b356be34edbc71bf469404a404863eff691819f729", func := "phosphor/phosphorlaw10.IsoApart", spec := "isoApart", inPlace := ["internal/bytealg.IndexByteString", "internal/bytealg.IndexString"], unfollowed := true, recurses := true, named := ["phosphor/charset.faces", "strings.asciiSpace", "unicode.White_Space", "internal/bytealg.MaxLen"], apart := false, laid := [("unicode.White_Space", laid_unicode_White_Space), ("strings.asciiSpace", laid_strings_asciiSpace), ("phosphor/charset.faces", laid_phosphor_charset_faces)] }
def IsoApartSaid : Prop := isoApartRow.holds Tryd.pinned (OpenSpec.ofChange isoApartSpec)

/-- ITS FALSE NEIGHBOUR: 'it returns false'. Refute it at one input. -/
def isoApartWrong : ChangeSpec := { name := "isoApart", fn := fun _ => fun
  | [d1, d2, d3] => { results := [.lit (.bool false)], args := [d1, d2, d3] }
  | _ => none }
def IsoApartWrongFalsely : Prop := isoApartRow.holds Tryd.pinned (OpenSpec.ofChange isoApartWrong)

/-- 'phosphortop.PhosphorAtHand': WHATEVER THE INPUT: true; the input reads as it did. -/
def phosphorAtHandSpec : ChangeSpec := { name := "phosphorAtHand", fn := fun _ => fun
  | [d1, d2, d3] => { results := [.lit (.bool true)], args := [d1, d2, d3] }
  | _ => none }
def phosphorAtHandRow : OpenClaim := { program := "ytandfpghjbbalaadoor", sum := "d20f452932c2acf910df80b356be34edbc71bf469404a404863eff691819f729", func := "phosphor/phosphortop.PhosphorAtHand", spec := "phosphorAtHand", inPlace := ["internal/bytealg.IndexByteString", "internal/bytealg.IndexString"], unfollowed := true, recurses := true, named := ["phosphor/charset.faces", "internal/bytealg.MaxLen", "strings.asciiSpace", "unicode.White_Space"], apart := false, laid := [("unicode.White_Space", laid_unicode_White_Space), ("strings.asciiSpace", laid_strings_asciiSpace), ("phosphor/charset.faces", laid_phosphor_charset_faces)] }
def PhosphorAtHandSaid : Prop := phosphorAtHandRow.holds Tryd.pinned (OpenSpec.ofChange phosphorAtHandSpec)

/-- ITS FALSE NEIGHBOUR: 'it returns false'. Refute it at one input. -/
def phosphorAtHandWrong : ChangeSpec := { name := "phosphorAtHand", fn := fun _ => fun
  | [d1, d2, d3] => { results := [.lit (.bool false)], args := [d1, d2, d3] }
  | _ => none }
def PhosphorAtHandWrongFalsely : Prop := phosphorAtHandRow.holds Tryd.pinned (OpenSpec.ofChange phosphorAtHandWrong)

/- THE SECOND FORM. 'bulk': how many values and letters a reading holds, each counted each time it is reached (what is shared counts as often as it is met; a slice's spare places count too). A statement '..UptoSaid' is the law's where the arguments, and the package variables that the reading takes, are together of bulk at most 1048576: NARROWER than '..Said'. Prove '..Said' where nothing that the law and all that it calls make is longer than what came in: it says more and counts as full. Else prove '..UptoSaid'. A law counts once. -/
mutual
def uptoBulk {H : Type} : DataW H → Nat
  | .lit (.string bytes) => bytes.length + 1
  | .lit _ => 1
  | .nil => 1
  | .ptr d => uptoBulk d + 1
  | .slice elems spare => uptoBulkAll elems + uptoBulkAll spare + 1
  | .agg parts => uptoBulkAll parts + 1
  | .iface _ d => uptoBulk d + 1
  | .map entries => uptoBulkEntries entries + 1
  | .held _ => 1
def uptoBulkAll {H : Type} : List (DataW H) → Nat
  | [] => 0
  | d :: r => uptoBulk d + uptoBulkAll r
def uptoBulkEntries {H : Type} : List (Lit × DataW H) → Nat
  | [] => 0
  | x :: r => uptoBulkEntry x + uptoBulkEntries r
def uptoBulkEntry {H : Type} : Lit × DataW H → Nat
  | (.string bytes, d) => bytes.length + uptoBulk d + 1
  | (_, d) => uptoBulk d + 1
 end
def uptoSmall : (H : Type) → List (DataW H) → Bool := fun _ ds => decide (uptoBulkAll ds ≤ 1048576)
def OpenSpec.upto (s : _root_.Go.ChangeSpec) : _root_.Go.OpenSpec := { _root_.Go.OpenSpec.ofChange s with cond := some uptoSmall }

/-- 'phosphorlaw09.CharsetGlyphs', WHERE WHAT IT READS IS OF BULK AT MOST 1048576: true; the input reads as it did. -/
def charsetGlyphsUptoRow : OpenClaim := { program := "ytandfpghjbbalaadoor", sum := "d20f452932c2acf910df80b356be34edbc71bf469404a404863eff691819f729", func := "phosphor/phosphorlaw09.CharsetGlyphs", spec := "charsetGlyphs", inPlace := ["internal/bytealg.IndexByteString"], named := ["phosphor/charset.faces"], apart := false, laid := [("phosphor/charset.faces", laid_phosphor_charset_faces)], narrowed := true }
def CharsetGlyphsUptoSaid : Prop := charsetGlyphsUptoRow.holds Tryd.pinned (OpenSpec.upto charsetGlyphsSpec)

/-- 'phosphorlaw09.CharsetFinds', WHERE WHAT IT READS IS OF BULK AT MOST 1048576: true; the input reads as it did. -/
def charsetFindsUptoRow : OpenClaim := { program := "ytandfpghjbbalaadoor", sum := "d20f452932c2acf910df80b356be34edbc71bf469404a404863eff691819f729", func := "phosphor/phosphorlaw09.CharsetFinds", spec := "charsetFinds", inPlace := ["internal/bytealg.IndexByteString", "internal/bytealg.IndexString"], unfollowed := true, recurses := true, named := ["phosphor/charset.faces", "strings.asciiSpace", "unicode.White_Space", "internal/bytealg.MaxLen"], apart := false, laid := [("unicode.White_Space", laid_unicode_White_Space), ("strings.asciiSpace", laid_strings_asciiSpace), ("phosphor/charset.faces", laid_phosphor_charset_faces)], narrowed := true }
def CharsetFindsUptoSaid : Prop := charsetFindsUptoRow.holds Tryd.pinned (OpenSpec.upto charsetFindsSpec)

/-- 'phosphorlaw09.CharsetIds', WHERE WHAT IT READS IS OF BULK AT MOST 1048576: true; the input reads as it did. -/
def charsetIdsUptoRow : OpenClaim := { program := "ytandfpghjbbalaadoor", sum := "d20f452932c2acf910df80b356be34edbc71bf469404a404863eff691819f729", func := "phosphor/phosphorlaw09.CharsetIds", spec := "charsetIds", inPlace := ["internal/bytealg.IndexByteString", "internal/bytealg.IndexString"], unfollowed := true, recurses := true, named := ["phosphor/charset.faces", "internal/bytealg.MaxLen", "strings.asciiSpace", "unicode.White_Space"], apart := false, laid := [("unicode.White_Space", laid_unicode_White_Space), ("strings.asciiSpace", laid_strings_asciiSpace), ("phosphor/charset.faces", laid_phosphor_charset_faces)], narrowed := true }
def CharsetIdsUptoSaid : Prop := charsetIdsUptoRow.holds Tryd.pinned (OpenSpec.upto charsetIdsSpec)

/-- 'phosphorlaw09.CharsetNations', WHERE WHAT IT READS IS OF BULK AT MOST 1048576: true; the input reads as it did. -/
def charsetNationsUptoRow : OpenClaim := { program := "ytandfpghjbbalaadoor", sum := "d20f452932c2acf910df80b356be34edbc71bf469404a404863eff691819f729", func := "phosphor/phosphorlaw09.CharsetNations", spec := "charsetNations", inPlace := ["internal/bytealg.IndexByteString"], named := ["phosphor/charset.faces"], apart := false, laid := [("phosphor/charset.faces", laid_phosphor_charset_faces)], narrowed := true }
def CharsetNationsUptoSaid : Prop := charsetNationsUptoRow.holds Tryd.pinned (OpenSpec.upto charsetNationsSpec)

/-- 'phosphorlaw09.CharsetShows', WHERE WHAT IT READS IS OF BULK AT MOST 1048576: true; the input reads as it did. -/
def charsetShowsUptoRow : OpenClaim := { program := "ytandfpghjbbalaadoor", sum := "d20f452932c2acf910df80b356be34edbc71bf469404a404863eff691819f729", func := "phosphor/phosphorlaw09.CharsetShows", spec := "charsetShows", inPlace := ["internal/bytealg.IndexByteString", "internal/bytealg.IndexString"], named := ["phosphor/charset.faces", "internal/bytealg.MaxLen"], apart := false, laid := [("phosphor/charset.faces", laid_phosphor_charset_faces)], narrowed := true }
def CharsetShowsUptoSaid : Prop := charsetShowsUptoRow.holds Tryd.pinned (OpenSpec.upto charsetShowsSpec)

/-- 'phosphorlaw10.IsoOnce', WHERE WHAT IT READS IS OF BULK AT MOST 1048576: true; the input reads as it did. -/
def isoOnceUptoRow : OpenClaim := { program := "ytandfpghjbbalaadoor", sum := "d20f452932c2acf910df80b356be34edbc71bf469404a404863eff691819f729", func := "phosphor/phosphorlaw10.IsoOnce", spec := "isoOnce", inPlace := ["internal/bytealg.IndexByteString", "internal/bytealg.IndexString"], unfollowed := true, recurses := true, named := ["phosphor/charset.faces", "strings.asciiSpace", "unicode.White_Space", "internal/bytealg.MaxLen"], apart := false, laid := [("unicode.White_Space", laid_unicode_White_Space), ("strings.asciiSpace", laid_strings_asciiSpace), ("phosphor/charset.faces", laid_phosphor_charset_faces)], narrowed := true }
def IsoOnceUptoSaid : Prop := isoOnceUptoRow.holds Tryd.pinned (OpenSpec.upto isoOnceSpec)

/-- 'phosphorlaw10.IsoReports', WHERE WHAT IT READS IS OF BULK AT MOST 1048576: true; the input reads as it did. -/
def isoReportsUptoRow : OpenClaim := { program := "ytandfpghjbbalaadoor", sum := "d20f452932c2acf910df80b356be34edbc71bf469404a404863eff691819f729", func := "phosphor/phosphorlaw10.IsoReports", spec := "isoReports", inPlace := ["internal/bytealg.IndexByteString", "internal/bytealg.IndexString"], unfollowed := true, recurses := true, named := ["phosphor/charset.faces", "strings.asciiSpace", "unicode.White_Space", "internal/bytealg.MaxLen"], apart := false, laid := [("unicode.White_Space", laid_unicode_White_Space), ("strings.asciiSpace", laid_strings_asciiSpace), ("phosphor/charset.faces", laid_phosphor_charset_faces)], narrowed := true }
def IsoReportsUptoSaid : Prop := isoReportsUptoRow.holds Tryd.pinned (OpenSpec.upto isoReportsSpec)

/-- 'phosphorlaw10.IsoApart', WHERE WHAT IT READS IS OF BULK AT MOST 1048576: true; the input reads as it did. -/
def isoApartUptoRow : OpenClaim := { program := "ytandfpghjbbalaadoor", sum := "d20f452932c2acf910df80b356be34edbc71bf469404a404863eff691819f729", func := "phosphor/phosphorlaw10.IsoApart", spec := "isoApart", inPlace := ["internal/bytealg.IndexByteString", "internal/bytealg.IndexString"], unfollowed := true, recurses := true, named := ["phosphor/charset.faces", "strings.asciiSpace", "unicode.White_Space", "internal/bytealg.MaxLen"], apart := false, laid := [("unicode.White_Space", laid_unicode_White_Space), ("strings.asciiSpace", laid_strings_asciiSpace), ("phosphor/charset.faces", laid_phosphor_charset_faces)], narrowed := true }
def IsoApartUptoSaid : Prop := isoApartUptoRow.holds Tryd.pinned (OpenSpec.upto isoApartSpec)

/-- 'phosphortop.PhosphorAtHand', WHERE WHAT IT READS IS OF BULK AT MOST 1048576: true; the input reads as it did. -/
def phosphorAtHandUptoRow : OpenClaim := { program := "ytandfpghjbbalaadoor", sum := "d20f452932c2acf910df80b356be34edbc71bf469404a404863eff691819f729", func := "phosphor/phosphortop.PhosphorAtHand", spec := "phosphorAtHand", inPlace := ["internal/bytealg.IndexByteString", "internal/bytealg.IndexString"], unfollowed := true, recurses := true, named := ["phosphor/charset.faces", "internal/bytealg.MaxLen", "strings.asciiSpace", "unicode.White_Space"], apart := false, laid := [("unicode.White_Space", laid_unicode_White_Space), ("strings.asciiSpace", laid_strings_asciiSpace), ("phosphor/charset.faces", laid_phosphor_charset_faces)], narrowed := true }
def PhosphorAtHandUptoSaid : Prop := phosphorAtHandUptoRow.holds Tryd.pinned (OpenSpec.upto phosphorAtHandSpec)

end Rows
end Go.Proofs.YtandfpghjbbalaaDoor

/-
  NARROWER THAN 'FOR EVERY INPUT', by the rows' own cells (each row's printed sentence says how): ModeFinds: laid · ModeSets: laid · ModeAsks: laid · ModeWords: laid.
  DERIVED. THE GIVEN ROWS OF THIS SEAT. 4 by the template 'for every input the law returns true; each argument reads behind the call as it read before'; 0 by the template 'total and deterministic' (their statements: YtbbimecnobnbeaaDoorTotals.lean).
  GIVEN WITH THE SEED: the statements are not yours to turn. If you find one false, say at which input.
  Laid BY PROGRAM, IN A SANDBOX (cutbox-rows.mjs): the forced cells as the released guide's own fill.sh prints them over the translation 9f3bb65b8bcad7b4… (all of the seat's roots in one cut). By AI agents, Wed Nov 11 2026. No macro, syntax, notation, axiom, sorry.
-/
import Derived.Test.YtbbimecnobnbeaaDoorChecked
import GoSem.Claim
import GoSem.ClaimJoined
import GoSem.ClaimMapViews
import Derived.JoinedTies
import Derived.KernelRfl
namespace Go.Proofs.YtbbimecnobnbeaaDoor
/- THE CELL 'sum', in the pinned program and in every row, IS THE sha256 OF THE DUMP (.gsa) THAT YtbbimecnobnbeaaDoorProg.lean LOADS. Nothing in Lean hashes anything: it is a label: what it is worth is what the hold of that sum in a sandbox is worth. -/
noncomputable def Tryd.pinned : Pinned := { name := "ytbbimecnobnbeaadoor", sum := "9f3bb65b8bcad7b4b6313eec457bef7c6df29445895504f7eb7d82ae9210682a", checked := Tryd.checked }
namespace Rows
def none {H : Type} : Left H := { results := [], args := [] }

/- WHAT THE LISTED PACKAGE-LEVEL VARIABLES READ AS WHEN THE CALL BEGINS. Each datum BY PROGRAM (the guide's laid-datum.mjs) off the statement by which the dump's own 'gosem.cut.vars' lays the variable. In a bare row this is a premise. The card (YtbbimecnobnbeaaDoorCards.lean) ties it to the program's text. -/
def laid_phosphor_mode_table {H : Type} : DataW H := .agg [.agg [.lit (.bool false), .lit (.int .i64 2), .lit (.int .i64 1), .lit (.bool false)], .agg [.lit (.bool false), .lit (.int .i64 4), .lit (.int .i64 1), .lit (.bool false)], .agg [.lit (.bool false), .lit (.int .i64 12), .lit (.int .i64 1), .lit (.bool true)], .agg [.lit (.bool false), .lit (.int .i64 20), .lit (.int .i64 1), .lit (.bool false)], .agg [.lit (.bool true), .lit (.int .i64 1), .lit (.int .i64 1), .lit (.bool false)], .agg [.lit (.bool true), .lit (.int .i64 5), .lit (.int .i64 1), .lit (.bool false)], .agg [.lit (.bool true), .lit (.int .i64 6), .lit (.int .i64 1), .lit (.bool false)], .agg [.lit (.bool true), .lit (.int .i64 7), .lit (.int .i64 1), .lit (.bool true)], .agg [.lit (.bool true), .lit (.int .i64 8), .lit (.int .i64 1), .lit (.bool true)], .agg [.lit (.bool true), .lit (.int .i64 25), .lit (.int .i64 2), .lit (.bool true)], .agg [.lit (.bool true), .lit (.int .i64 42), .lit (.int .i64 2), .lit (.bool false)], .agg [.lit (.bool true), .lit (.int .i64 64), .lit (.int .i64 3), .lit (.bool true)], .agg [.lit (.bool true), .lit (.int .i64 66), .lit (.int .i64 3), .lit (.bool false)], .agg [.lit (.bool true), .lit (.int .i64 67), .lit (.int .i64 3), .lit (.bool false)], .agg [.lit (.bool true), .lit (.int .i64 68), .lit (.int .i64 3), .lit (.bool false)], .agg [.lit (.bool true), .lit (.int .i64 69), .lit (.int .i64 4), .lit (.bool false)], .agg [.lit (.bool true), .lit (.int .i64 95), .lit (.int .i64 5), .lit (.bool false)]]

/-- 'phosphorlaw17.ModeFinds': WHATEVER THE INPUT: true; the input reads as it did. -/
def modeFindsSpec : ChangeSpec := { name := "modeFinds", fn := fun _ => fun
  | [d1, d2, d3] => { results := [.lit (.bool true)], args := [d1, d2, d3] }
  | _ => none }
def modeFindsRow : OpenClaim := { program := "ytbbimecnobnbeaadoor", sum := "9f3bb65b8bcad7b4b6313eec457bef7c6df29445895504f7eb7d82ae9210682a", func := "phosphor/phosphorlaw17.ModeFinds", spec := "modeFinds", named := ["phosphor/mode.table"], apart := false, laid := [("phosphor/mode.table", laid_phosphor_mode_table)] }
def ModeFindsSaid : Prop := modeFindsRow.holds Tryd.pinned (OpenSpec.ofChange modeFindsSpec)

/-- ITS FALSE NEIGHBOUR: 'it returns false'. Refute it at one input. -/
def modeFindsWrong : ChangeSpec := { name := "modeFinds", fn := fun _ => fun
  | [d1, d2, d3] => { results := [.lit (.bool false)], args := [d1, d2, d3] }
  | _ => none }
def ModeFindsWrongFalsely : Prop := modeFindsRow.holds Tryd.pinned (OpenSpec.ofChange modeFindsWrong)

/-- 'phosphorlaw17.ModeSets': WHATEVER THE INPUT: true; the input reads as it did. -/
def modeSetsSpec : ChangeSpec := { name := "modeSets", fn := fun _ => fun
  | [d1, d2, d3] => { results := [.lit (.bool true)], args := [d1, d2, d3] }
  | _ => none }
def modeSetsRow : OpenClaim := { program := "ytbbimecnobnbeaadoor", sum := "9f3bb65b8bcad7b4b6313eec457bef7c6df29445895504f7eb7d82ae9210682a", func := "phosphor/phosphorlaw17.ModeSets", spec := "modeSets", named := ["phosphor/mode.table"], apart := false, laid := [("phosphor/mode.table", laid_phosphor_mode_table)] }
def ModeSetsSaid : Prop := modeSetsRow.holds Tryd.pinned (OpenSpec.ofChange modeSetsSpec)

/-- ITS FALSE NEIGHBOUR: 'it returns false'. Refute it at one input. -/
def modeSetsWrong : ChangeSpec := { name := "modeSets", fn := fun _ => fun
  | [d1, d2, d3] => { results := [.lit (.bool false)], args := [d1, d2, d3] }
  | _ => none }
def ModeSetsWrongFalsely : Prop := modeSetsRow.holds Tryd.pinned (OpenSpec.ofChange modeSetsWrong)

/-- 'phosphorlaw17.ModeAsks': WHATEVER THE INPUT: true; the input reads as it did. -/
def modeAsksSpec : ChangeSpec := { name := "modeAsks", fn := fun _ => fun
  | [d1, d2, d3] => { results := [.lit (.bool true)], args := [d1, d2, d3] }
  | _ => none }
def modeAsksRow : OpenClaim := { program := "ytbbimecnobnbeaadoor", sum := "9f3bb65b8bcad7b4b6313eec457bef7c6df29445895504f7eb7d82ae9210682a", func := "phosphor/phosphorlaw17.ModeAsks", spec := "modeAsks", named := ["phosphor/mode.table"], apart := false, laid := [("phosphor/mode.table", laid_phosphor_mode_table)] }
def ModeAsksSaid : Prop := modeAsksRow.holds Tryd.pinned (OpenSpec.ofChange modeAsksSpec)

/-- ITS FALSE NEIGHBOUR: 'it returns false'. Refute it at one input. -/
def modeAsksWrong : ChangeSpec := { name := "modeAsks", fn := fun _ => fun
  | [d1, d2, d3] => { results := [.lit (.bool false)], args := [d1, d2, d3] }
  | _ => none }
def ModeAsksWrongFalsely : Prop := modeAsksRow.holds Tryd.pinned (OpenSpec.ofChange modeAsksWrong)

/-- 'phosphorlaw17.ModeWords': WHATEVER THE INPUT: true; the input reads as it did. -/
def modeWordsSpec : ChangeSpec := { name := "modeWords", fn := fun _ => fun
  | [d1, d2] => { results := [.lit (.bool true)], args := [d1, d2] }
  | _ => none }
def modeWordsRow : OpenClaim := { program := "ytbbimecnobnbeaadoor", sum := "9f3bb65b8bcad7b4b6313eec457bef7c6df29445895504f7eb7d82ae9210682a", func := "phosphor/phosphorlaw17.ModeWords", spec := "modeWords", named := ["phosphor/mode.table"], apart := false, laid := [("phosphor/mode.table", laid_phosphor_mode_table)] }
def ModeWordsSaid : Prop := modeWordsRow.holds Tryd.pinned (OpenSpec.ofChange modeWordsSpec)

/-- ITS FALSE NEIGHBOUR: 'it returns false'. Refute it at one input. -/
def modeWordsWrong : ChangeSpec := { name := "modeWords", fn := fun _ => fun
  | [d1, d2] => { results := [.lit (.bool false)], args := [d1, d2] }
  | _ => none }
def ModeWordsWrongFalsely : Prop := modeWordsRow.holds Tryd.pinned (OpenSpec.ofChange modeWordsWrong)

/- THE SECOND FORM. 'bulk': how many values and letters a reading holds, each counted each time it is reached (what is shared counts as often as it is met; a slice's spare places count too). A statement '..UptoSaid' is the law's where the arguments, and the package variables that the reading takes, are together of bulk at most 1048576: NARROWER than '..Said'. Prove '..Said' where nothing that the law and all that it calls make is longer than what came in: it says more and counts as full. Else prove '..UptoSaid'. A law counts once. -/
mutual
def uptoBulk {H : Type} : DataW H → Nat
  | .lit (.string bytes) => bytes.length + 1
  | .lit _ => 1
  | .nil => 1
  | .ptr d => uptoBulk d + 1
  | .slice elems spare => uptoBulkAll elems + uptoBulkAll spare + 1
  | .agg parts => uptoBulkAll parts + 1
  | .iface _ d => uptoBulk d + 1
  | .map entries => uptoBulkEntries entries + 1
  | .held _ => 1
def uptoBulkAll {H : Type} : List (DataW H) → Nat
  | [] => 0
  | d :: r => uptoBulk d + uptoBulkAll r
def uptoBulkEntries {H : Type} : List (Lit × DataW H) → Nat
  | [] => 0
  | x :: r => uptoBulkEntry x + uptoBulkEntries r
def uptoBulkEntry {H : Type} : Lit × DataW H → Nat
  | (.string bytes, d) => bytes.length + uptoBulk d + 1
  | (_, d) => uptoBulk d + 1
 end
def uptoSmall : (H : Type) → List (DataW H) → Bool := fun _ ds => decide (uptoBulkAll ds ≤ 1048576)
def OpenSpec.upto (s : _root_.Go.ChangeSpec) : _root_.Go.OpenSpec := { _root_.Go.OpenSpec.ofChange s with cond := some uptoSmall }

/-- 'phosphorlaw17.ModeFinds', WHERE WHAT IT READS IS OF BULK AT MOST 1048576: true; the input reads as it did. -/
def modeFindsUptoRow : OpenClaim := { program := "ytbbimecnobnbeaadoor", sum := "9f3bb65b8bcad7b4b6313eec457bef7c6df29445895504f7eb7d82ae9210682a", func := "phosphor/phosphorlaw17.ModeFinds", spec := "modeFinds", named := ["phosphor/mode.table"], apart := false, laid := [("phosphor/mode.table", laid_phosphor_mode_table)], narrowed := true }
def ModeFindsUptoSaid : Prop := modeFindsUptoRow.holds Tryd.pinned (OpenSpec.upto modeFindsSpec)

/-- 'phosphorlaw17.ModeSets', WHERE WHAT IT READS IS OF BULK AT MOST 1048576: true; the input reads as it did. -/
def modeSetsUptoRow : OpenClaim := { program := "ytbbimecnobnbeaadoor", sum := "9f3bb65b8bcad7b4b6313eec457bef7c6df29445895504f7eb7d82ae9210682a", func := "phosphor/phosphorlaw17.ModeSets", spec := "modeSets", named := ["phosphor/mode.table"], apart := false, laid := [("phosphor/mode.table", laid_phosphor_mode_table)], narrowed := true }
def ModeSetsUptoSaid : Prop := modeSetsUptoRow.holds Tryd.pinned (OpenSpec.upto modeSetsSpec)

/-- 'phosphorlaw17.ModeAsks', WHERE WHAT IT READS IS OF BULK AT MOST 1048576: true; the input reads as it did. -/
def modeAsksUptoRow : OpenClaim := { program := "ytbbimecnobnbeaadoor", sum := "9f3bb65b8bcad7b4b6313eec457bef7c6df29445895504f7eb7d82ae9210682a", func := "phosphor/phosphorlaw17.ModeAsks", spec := "modeAsks", named := ["phosphor/mode.table"], apart := false, laid := [("phosphor/mode.table", laid_phosphor_mode_table)], narrowed := true }
def ModeAsksUptoSaid : Prop := modeAsksUptoRow.holds Tryd.pinned (OpenSpec.upto modeAsksSpec)

/-- 'phosphorlaw17.ModeWords', WHERE WHAT IT READS IS OF BULK AT MOST 1048576: true; the input reads as it did. -/
def modeWordsUptoRow : OpenClaim := { program := "ytbbimecnobnbeaadoor", sum := "9f3bb65b8bcad7b4b6313eec457bef7c6df29445895504f7eb7d82ae9210682a", func := "phosphor/phosphorlaw17.ModeWords", spec := "modeWords", named := ["phosphor/mode.table"], apart := false, laid := [("phosphor/mode.table", laid_phosphor_mode_table)], narrowed := true }
def ModeWordsUptoSaid : Prop := modeWordsUptoRow.holds Tryd.pinned (OpenSpec.upto modeWordsSpec)

end Rows
end Go.Proofs.YtbbimecnobnbeaaDoor

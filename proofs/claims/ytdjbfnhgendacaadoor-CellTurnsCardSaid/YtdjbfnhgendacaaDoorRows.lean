/-
  NARROWER THAN 'FOR EVERY INPUT', by the rows' own cells (each row's printed sentence says how): RendApplies: laid · RendFlips: laid · RendParams: laid · RendLetters: laid · RendWeights: laid · RendSays: laid · CellWeighs: laid · CellSums: laid · CellPacks: laid · CellKeeps: laid · CellTurns: laid · PhosphorWeighed: laid.
  DERIVED. THE GIVEN ROWS OF THIS SEAT. 12 by the template 'for every input the law returns true; each argument reads behind the call as it read before'; 0 by the template 'total and deterministic' (their statements: YtdjbfnhgendacaaDoorTotals.lean).
  GIVEN WITH THE SEED: the statements are not yours to turn. If you find one false, say at which input.
  Laid BY PROGRAM, IN A SANDBOX (cutbox-rows.mjs): the forced cells as the released guide's own fill.sh prints them over the translation c86b1e1a276ab385… (all of the seat's roots in one cut). By AI agents, Wed Nov 11 2026. No macro, syntax, notation, axiom, sorry.
-/
import Derived.Test.YtdjbfnhgendacaaDoorChecked
import GoSem.Claim
import GoSem.ClaimJoined
import GoSem.ClaimMapViews
import Derived.JoinedTies
import Derived.KernelRfl
namespace Go.Proofs.YtdjbfnhgendacaaDoor
/- THE CELL 'sum', in the pinned program and in every row, IS THE sha256 OF THE DUMP (.gsa) THAT YtdjbfnhgendacaaDoorProg.lean LOADS. Nothing in Lean hashes anything: it is a label: what it is worth is what the hold of that sum in a sandbox is worth. -/
noncomputable def Tryd.pinned : Pinned := { name := "ytdjbfnhgendacaadoor", sum := "c86b1e1a276ab3850781eaf79d01a82400157a8f4e8ef6b3d9b9a3f738a4c170", checked := Tryd.checked }
namespace Rows
def none {H : Type} : Left H := { results := [], args := [] }

/- WHAT THE LISTED PACKAGE-LEVEL VARIABLES READ AS WHEN THE CALL BEGINS. Each datum BY PROGRAM (the guide's laid-datum.mjs) off the statement by which the dump's own 'gosem.cut.vars' lays the variable. In a bare row this is a premise. The card (YtdjbfnhgendacaaDoorCards.lean) ties it to the program's text. -/
def laid_phosphor_rend_parts {H : Type} : DataW H := .agg [.agg [.lit (.int .u8 1), .lit (.int .i64 1), .lit (.int .i64 22), .lit (.int .u8 98), .lit (.int .i64 128)], .agg [.lit (.int .u8 2), .lit (.int .i64 4), .lit (.int .i64 24), .lit (.int .u8 117), .lit (.int .i64 16)], .agg [.lit (.int .u8 4), .lit (.int .i64 5), .lit (.int .i64 25), .lit (.int .u8 107), .lit (.int .i64 64)], .agg [.lit (.int .u8 8), .lit (.int .i64 7), .lit (.int .i64 27), .lit (.int .u8 114), .lit (.int .i64 32)], .agg [.lit (.int .u8 16), .lit (.int .i64 8), .lit (.int .i64 28), .lit (.int .u8 104), .lit (.int .i64 8)]]

/-- 'phosphorlaw01.RendApplies': WHATEVER THE INPUT: true; the input reads as it did. -/
def rendAppliesSpec : ChangeSpec := { name := "rendApplies", fn := fun _ => fun
  | [d1, d2] => { results := [.lit (.bool true)], args := [d1, d2] }
  | _ => none }
def rendAppliesRow : OpenClaim := { program := "ytdjbfnhgendacaadoor", sum := "c86b1e1a276ab3850781eaf79d01a82400157a8f4e8ef6b3d9b9a3f738a4c170", func := "phosphor/phosphorlaw01.RendApplies", spec := "rendApplies", named := ["phosphor/rend.parts"], apart := false, laid := [("phosphor/rend.parts", laid_phosphor_rend_parts)] }
def RendAppliesSaid : Prop := rendAppliesRow.holds Tryd.pinned (OpenSpec.ofChange rendAppliesSpec)

/-- ITS FALSE NEIGHBOUR: 'it returns false'. Refute it at one input. -/
def rendAppliesWrong : ChangeSpec := { name := "rendApplies", fn := fun _ => fun
  | [d1, d2] => { results := [.lit (.bool false)], args := [d1, d2] }
  | _ => none }
def RendAppliesWrongFalsely : Prop := rendAppliesRow.holds Tryd.pinned (OpenSpec.ofChange rendAppliesWrong)

/-- 'phosphorlaw01.RendFlips': WHATEVER THE INPUT: true; the input reads as it did. -/
def rendFlipsSpec : ChangeSpec := { name := "rendFlips", fn := fun _ => fun
  | [d1, d2] => { results := [.lit (.bool true)], args := [d1, d2] }
  | _ => none }
def rendFlipsRow : OpenClaim := { program := "ytdjbfnhgendacaadoor", sum := "c86b1e1a276ab3850781eaf79d01a82400157a8f4e8ef6b3d9b9a3f738a4c170", func := "phosphor/phosphorlaw01.RendFlips", spec := "rendFlips", named := ["phosphor/rend.parts"], apart := false, laid := [("phosphor/rend.parts", laid_phosphor_rend_parts)] }
def RendFlipsSaid : Prop := rendFlipsRow.holds Tryd.pinned (OpenSpec.ofChange rendFlipsSpec)

/-- ITS FALSE NEIGHBOUR: 'it returns false'. Refute it at one input. -/
def rendFlipsWrong : ChangeSpec := { name := "rendFlips", fn := fun _ => fun
  | [d1, d2] => { results := [.lit (.bool false)], args := [d1, d2] }
  | _ => none }
def RendFlipsWrongFalsely : Prop := rendFlipsRow.holds Tryd.pinned (OpenSpec.ofChange rendFlipsWrong)

/-- 'phosphorlaw01.RendParams': WHATEVER THE INPUT: true; the input reads as it did. -/
def rendParamsSpec : ChangeSpec := { name := "rendParams", fn := fun _ => fun
  | [d1, d2] => { results := [.lit (.bool true)], args := [d1, d2] }
  | _ => none }
def rendParamsRow : OpenClaim := { program := "ytdjbfnhgendacaadoor", sum := "c86b1e1a276ab3850781eaf79d01a82400157a8f4e8ef6b3d9b9a3f738a4c170", func := "phosphor/phosphorlaw01.RendParams", spec := "rendParams", named := ["phosphor/rend.parts"], apart := false, laid := [("phosphor/rend.parts", laid_phosphor_rend_parts)] }
def RendParamsSaid : Prop := rendParamsRow.holds Tryd.pinned (OpenSpec.ofChange rendParamsSpec)

/-- ITS FALSE NEIGHBOUR: 'it returns false'. Refute it at one input. -/
def rendParamsWrong : ChangeSpec := { name := "rendParams", fn := fun _ => fun
  | [d1, d2] => { results := [.lit (.bool false)], args := [d1, d2] }
  | _ => none }
def RendParamsWrongFalsely : Prop := rendParamsRow.holds Tryd.pinned (OpenSpec.ofChange rendParamsWrong)

/-- 'phosphorlaw01.RendLetters': WHATEVER THE INPUT: true; the input reads as it did. -/
def rendLettersSpec : ChangeSpec := { name := "rendLetters", fn := fun _ => fun
  | [d1, d2] => { results := [.lit (.bool true)], args := [d1, d2] }
  | _ => none }
def rendLettersRow : OpenClaim := { program := "ytdjbfnhgendacaadoor", sum := "c86b1e1a276ab3850781eaf79d01a82400157a8f4e8ef6b3d9b9a3f738a4c170", func := "phosphor/phosphorlaw01.RendLetters", spec := "rendLetters", named := ["phosphor/rend.parts"], apart := false, laid := [("phosphor/rend.parts", laid_phosphor_rend_parts)] }
def RendLettersSaid : Prop := rendLettersRow.holds Tryd.pinned (OpenSpec.ofChange rendLettersSpec)

/-- ITS FALSE NEIGHBOUR: 'it returns false'. Refute it at one input. -/
def rendLettersWrong : ChangeSpec := { name := "rendLetters", fn := fun _ => fun
  | [d1, d2] => { results := [.lit (.bool false)], args := [d1, d2] }
  | _ => none }
def RendLettersWrongFalsely : Prop := rendLettersRow.holds Tryd.pinned (OpenSpec.ofChange rendLettersWrong)

/-- 'phosphorlaw01.RendWeights': WHATEVER THE INPUT: true; the input reads as it did. -/
def rendWeightsSpec : ChangeSpec := { name := "rendWeights", fn := fun _ => fun
  | [d1, d2] => { results := [.lit (.bool true)], args := [d1, d2] }
  | _ => none }
def rendWeightsRow : OpenClaim := { program := "ytdjbfnhgendacaadoor", sum := "c86b1e1a276ab3850781eaf79d01a82400157a8f4e8ef6b3d9b9a3f738a4c170", func := "phosphor/phosphorlaw01.RendWeights", spec := "rendWeights", named := ["phosphor/rend.parts"], apart := false, laid := [("phosphor/rend.parts", laid_phosphor_rend_parts)] }
def RendWeightsSaid : Prop := rendWeightsRow.holds Tryd.pinned (OpenSpec.ofChange rendWeightsSpec)

/-- ITS FALSE NEIGHBOUR: 'it returns false'. Refute it at one input. -/
def rendWeightsWrong : ChangeSpec := { name := "rendWeights", fn := fun _ => fun
  | [d1, d2] => { results := [.lit (.bool false)], args := [d1, d2] }
  | _ => none }
def RendWeightsWrongFalsely : Prop := rendWeightsRow.holds Tryd.pinned (OpenSpec.ofChange rendWeightsWrong)

/-- 'phosphorlaw01.RendSays': WHATEVER THE INPUT: true; the input reads as it did. -/
def rendSaysSpec : ChangeSpec := { name := "rendSays", fn := fun _ => fun
  | [d1, d2] => { results := [.lit (.bool true)], args := [d1, d2] }
  | _ => none }
def rendSaysRow : OpenClaim := { program := "ytdjbfnhgendacaadoor", sum := "c86b1e1a276ab3850781eaf79d01a82400157a8f4e8ef6b3d9b9a3f738a4c170", func := "phosphor/phosphorlaw01.RendSays", spec := "rendSays", named := ["phosphor/rend.parts"], apart := false, laid := [("phosphor/rend.parts", laid_phosphor_rend_parts)] }
def RendSaysSaid : Prop := rendSaysRow.holds Tryd.pinned (OpenSpec.ofChange rendSaysSpec)

/-- ITS FALSE NEIGHBOUR: 'it returns false'. Refute it at one input. -/
def rendSaysWrong : ChangeSpec := { name := "rendSays", fn := fun _ => fun
  | [d1, d2] => { results := [.lit (.bool false)], args := [d1, d2] }
  | _ => none }
def RendSaysWrongFalsely : Prop := rendSaysRow.holds Tryd.pinned (OpenSpec.ofChange rendSaysWrong)

/-- 'phosphorlaw02.CellWeighs': WHATEVER THE INPUT: true; the input reads as it did. -/
def cellWeighsSpec : ChangeSpec := { name := "cellWeighs", fn := fun _ => fun
  | [d] => { results := [.lit (.bool true)], args := [d] }
  | _ => none }
def cellWeighsRow : OpenClaim := { program := "ytdjbfnhgendacaadoor", sum := "c86b1e1a276ab3850781eaf79d01a82400157a8f4e8ef6b3d9b9a3f738a4c170", func := "phosphor/phosphorlaw02.CellWeighs", spec := "cellWeighs", named := ["phosphor/rend.parts"], apart := false, laid := [("phosphor/rend.parts", laid_phosphor_rend_parts)] }
def CellWeighsSaid : Prop := cellWeighsRow.holds Tryd.pinned (OpenSpec.ofChange cellWeighsSpec)

/-- ITS FALSE NEIGHBOUR: 'it returns false'. Refute it at one input. -/
def cellWeighsWrong : ChangeSpec := { name := "cellWeighs", fn := fun _ => fun
  | [d] => { results := [.lit (.bool false)], args := [d] }
  | _ => none }
def CellWeighsWrongFalsely : Prop := cellWeighsRow.holds Tryd.pinned (OpenSpec.ofChange cellWeighsWrong)

/-- 'phosphorlaw02.CellSums': WHATEVER THE INPUT: true; the input reads as it did. -/
def cellSumsSpec : ChangeSpec := { name := "cellSums", fn := fun _ => fun
  | [d1, d2] => { results := [.lit (.bool true)], args := [d1, d2] }
  | _ => none }
def cellSumsRow : OpenClaim := { program := "ytdjbfnhgendacaadoor", sum := "c86b1e1a276ab3850781eaf79d01a82400157a8f4e8ef6b3d9b9a3f738a4c170", func := "phosphor/phosphorlaw02.CellSums", spec := "cellSums", named := ["phosphor/rend.parts"], apart := false, laid := [("phosphor/rend.parts", laid_phosphor_rend_parts)] }
def CellSumsSaid : Prop := cellSumsRow.holds Tryd.pinned (OpenSpec.ofChange cellSumsSpec)

/-- ITS FALSE NEIGHBOUR: 'it returns false'. Refute it at one input. -/
def cellSumsWrong : ChangeSpec := { name := "cellSums", fn := fun _ => fun
  | [d1, d2] => { results := [.lit (.bool false)], args := [d1, d2] }
  | _ => none }
def CellSumsWrongFalsely : Prop := cellSumsRow.holds Tryd.pinned (OpenSpec.ofChange cellSumsWrong)

/-- 'phosphorlaw02.CellPacks': WHATEVER THE INPUT: true; the input reads as it did. -/
def cellPacksSpec : ChangeSpec := { name := "cellPacks", fn := fun _ => fun
  | [d1, d2] => { results := [.lit (.bool true)], args := [d1, d2] }
  | _ => none }
def cellPacksRow : OpenClaim := { program := "ytdjbfnhgendacaadoor", sum := "c86b1e1a276ab3850781eaf79d01a82400157a8f4e8ef6b3d9b9a3f738a4c170", func := "phosphor/phosphorlaw02.CellPacks", spec := "cellPacks", named := ["phosphor/rend.parts"], apart := false, laid := [("phosphor/rend.parts", laid_phosphor_rend_parts)] }
def CellPacksSaid : Prop := cellPacksRow.holds Tryd.pinned (OpenSpec.ofChange cellPacksSpec)

/-- ITS FALSE NEIGHBOUR: 'it returns false'. Refute it at one input. -/
def cellPacksWrong : ChangeSpec := { name := "cellPacks", fn := fun _ => fun
  | [d1, d2] => { results := [.lit (.bool false)], args := [d1, d2] }
  | _ => none }
def CellPacksWrongFalsely : Prop := cellPacksRow.holds Tryd.pinned (OpenSpec.ofChange cellPacksWrong)

/-- 'phosphorlaw02.CellKeeps': WHATEVER THE INPUT: true; the input reads as it did. -/
def cellKeepsSpec : ChangeSpec := { name := "cellKeeps", fn := fun _ => fun
  | [d] => { results := [.lit (.bool true)], args := [d] }
  | _ => none }
def cellKeepsRow : OpenClaim := { program := "ytdjbfnhgendacaadoor", sum := "c86b1e1a276ab3850781eaf79d01a82400157a8f4e8ef6b3d9b9a3f738a4c170", func := "phosphor/phosphorlaw02.CellKeeps", spec := "cellKeeps", named := ["phosphor/rend.parts"], apart := false, laid := [("phosphor/rend.parts", laid_phosphor_rend_parts)] }
def CellKeepsSaid : Prop := cellKeepsRow.holds Tryd.pinned (OpenSpec.ofChange cellKeepsSpec)

/-- ITS FALSE NEIGHBOUR: 'it returns false'. Refute it at one input. -/
def cellKeepsWrong : ChangeSpec := { name := "cellKeeps", fn := fun _ => fun
  | [d] => { results := [.lit (.bool false)], args := [d] }
  | _ => none }
def CellKeepsWrongFalsely : Prop := cellKeepsRow.holds Tryd.pinned (OpenSpec.ofChange cellKeepsWrong)

/-- 'phosphorlaw02.CellTurns': WHATEVER THE INPUT: true; the input reads as it did. -/
def cellTurnsSpec : ChangeSpec := { name := "cellTurns", fn := fun _ => fun
  | [d1, d2] => { results := [.lit (.bool true)], args := [d1, d2] }
  | _ => none }
def cellTurnsRow : OpenClaim := { program := "ytdjbfnhgendacaadoor", sum := "c86b1e1a276ab3850781eaf79d01a82400157a8f4e8ef6b3d9b9a3f738a4c170", func := "phosphor/phosphorlaw02.CellTurns", spec := "cellTurns", named := ["phosphor/rend.parts"], apart := false, laid := [("phosphor/rend.parts", laid_phosphor_rend_parts)] }
def CellTurnsSaid : Prop := cellTurnsRow.holds Tryd.pinned (OpenSpec.ofChange cellTurnsSpec)

/-- ITS FALSE NEIGHBOUR: 'it returns false'. Refute it at one input. -/
def cellTurnsWrong : ChangeSpec := { name := "cellTurns", fn := fun _ => fun
  | [d1, d2] => { results := [.lit (.bool false)], args := [d1, d2] }
  | _ => none }
def CellTurnsWrongFalsely : Prop := cellTurnsRow.holds Tryd.pinned (OpenSpec.ofChange cellTurnsWrong)

/-- 'phosphortop.PhosphorWeighed': WHATEVER THE INPUT: true; the input reads as it did. -/
def phosphorWeighedSpec : ChangeSpec := { name := "phosphorWeighed", fn := fun _ => fun
  | [d1, d2, d3] => { results := [.lit (.bool true)], args := [d1, d2, d3] }
  | _ => none }
def phosphorWeighedRow : OpenClaim := { program := "ytdjbfnhgendacaadoor", sum := "c86b1e1a276ab3850781eaf79d01a82400157a8f4e8ef6b3d9b9a3f738a4c170", func := "phosphor/phosphortop.PhosphorWeighed", spec := "phosphorWeighed", named := ["phosphor/rend.parts"], apart := false, laid := [("phosphor/rend.parts", laid_phosphor_rend_parts)] }
def PhosphorWeighedSaid : Prop := phosphorWeighedRow.holds Tryd.pinned (OpenSpec.ofChange phosphorWeighedSpec)

/-- ITS FALSE NEIGHBOUR: 'it returns false'. Refute it at one input. -/
def phosphorWeighedWrong : ChangeSpec := { name := "phosphorWeighed", fn := fun _ => fun
  | [d1, d2, d3] => { results := [.lit (.bool false)], args := [d1, d2, d3] }
  | _ => none }
def PhosphorWeighedWrongFalsely : Prop := phosphorWeighedRow.holds Tryd.pinned (OpenSpec.ofChange phosphorWeighedWrong)

/- THE SECOND FORM. 'bulk': how many values and letters a reading holds, each counted each time it is reached (what is shared counts as often as it is met; a slice's spare places count too). A statement '..UptoSaid' is the law's where the arguments, and the package variables that the reading takes, are together of bulk at most 1048576: NARROWER than '..Said'. Prove '..Said' where nothing that the law and all that it calls make is longer than what came in: it says more and counts as full. Else prove '..UptoSaid'. A law counts once. -/
mutual
def uptoBulk {H : Type} : DataW H → Nat
  | .lit (.string bytes) => bytes.length + 1
  | .lit _ => 1
  | .nil => 1
  | .ptr d => uptoBulk d + 1
  | .slice elems spare => uptoBulkAll elems + uptoBulkAll spare + 1
  | .agg parts => uptoBulkAll parts + 1
  | .iface _ d => uptoBulk d + 1
  | .map entries => uptoBulkEntries entries + 1
  | .held _ => 1
def uptoBulkAll {H : Type} : List (DataW H) → Nat
  | [] => 0
  | d :: r => uptoBulk d + uptoBulkAll r
def uptoBulkEntries {H : Type} : List (Lit × DataW H) → Nat
  | [] => 0
  | x :: r => uptoBulkEntry x + uptoBulkEntries r
def uptoBulkEntry {H : Type} : Lit × DataW H → Nat
  | (.string bytes, d) => bytes.length + uptoBulk d + 1
  | (_, d) => uptoBulk d + 1
 end
def uptoSmall : (H : Type) → List (DataW H) → Bool := fun _ ds => decide (uptoBulkAll ds ≤ 1048576)
def OpenSpec.upto (s : _root_.Go.ChangeSpec) : _root_.Go.OpenSpec := { _root_.Go.OpenSpec.ofChange s with cond := some uptoSmall }

/-- 'phosphorlaw01.RendApplies', WHERE WHAT IT READS IS OF BULK AT MOST 1048576: true; the input reads as it did. -/
def rendAppliesUptoRow : OpenClaim := { program := "ytdjbfnhgendacaadoor", sum := "c86b1e1a276ab3850781eaf79d01a82400157a8f4e8ef6b3d9b9a3f738a4c170", func := "phosphor/phosphorlaw01.RendApplies", spec := "rendApplies", named := ["phosphor/rend.parts"], apart := false, laid := [("phosphor/rend.parts", laid_phosphor_rend_parts)], narrowed := true }
def RendAppliesUptoSaid : Prop := rendAppliesUptoRow.holds Tryd.pinned (OpenSpec.upto rendAppliesSpec)

/-- 'phosphorlaw01.RendFlips', WHERE WHAT IT READS IS OF BULK AT MOST 1048576: true; the input reads as it did. -/
def rendFlipsUptoRow : OpenClaim := { program := "ytdjbfnhgendacaadoor", sum := "c86b1e1a276ab3850781eaf79d01a82400157a8f4e8ef6b3d9b9a3f738a4c170", func := "phosphor/phosphorlaw01.RendFlips", spec := "rendFlips", named := ["phosphor/rend.parts"], apart := false, laid := [("phosphor/rend.parts", laid_phosphor_rend_parts)], narrowed := true }
def RendFlipsUptoSaid : Prop := rendFlipsUptoRow.holds Tryd.pinned (OpenSpec.upto rendFlipsSpec)

/-- 'phosphorlaw01.RendParams', WHERE WHAT IT READS IS OF BULK AT MOST 1048576: true; the input reads as it did. -/
def rendParamsUptoRow : OpenClaim := { program := "ytdjbfnhgendacaadoor", sum := "c86b1e1a276ab3850781eaf79d01a82400157a8f4e8ef6b3d9b9a3f738a4c170", func := "phosphor/phosphorlaw01.RendParams", spec := "rendParams", named := ["phosphor/rend.parts"], apart := false, laid := [("phosphor/rend.parts", laid_phosphor_rend_parts)], narrowed := true }
def RendParamsUptoSaid : Prop := rendParamsUptoRow.holds Tryd.pinned (OpenSpec.upto rendParamsSpec)

/-- 'phosphorlaw01.RendLetters', WHERE WHAT IT READS IS OF BULK AT MOST 1048576: true; the input reads as it did. -/
def rendLettersUptoRow : OpenClaim := { program := "ytdjbfnhgendacaadoor", sum := "c86b1e1a276ab3850781eaf79d01a82400157a8f4e8ef6b3d9b9a3f738a4c170", func := "phosphor/phosphorlaw01.RendLetters", spec := "rendLetters", named := ["phosphor/rend.parts"], apart := false, laid := [("phosphor/rend.parts", laid_phosphor_rend_parts)], narrowed := true }
def RendLettersUptoSaid : Prop := rendLettersUptoRow.holds Tryd.pinned (OpenSpec.upto rendLettersSpec)

/-- 'phosphorlaw01.RendWeights', WHERE WHAT IT READS IS OF BULK AT MOST 1048576: true; the input reads as it did. -/
def rendWeightsUptoRow : OpenClaim := { program := "ytdjbfnhgendacaadoor", sum := "c86b1e1a276ab3850781eaf79d01a82400157a8f4e8ef6b3d9b9a3f738a4c170", func := "phosphor/phosphorlaw01.RendWeights", spec := "rendWeights", named := ["phosphor/rend.parts"], apart := false, laid := [("phosphor/rend.parts", laid_phosphor_rend_parts)], narrowed := true }
def RendWeightsUptoSaid : Prop := rendWeightsUptoRow.holds Tryd.pinned (OpenSpec.upto rendWeightsSpec)

/-- 'phosphorlaw01.RendSays', WHERE WHAT IT READS IS OF BULK AT MOST 1048576: true; the input reads as it did. -/
def rendSaysUptoRow : OpenClaim := { program := "ytdjbfnhgendacaadoor", sum := "c86b1e1a276ab3850781eaf79d01a82400157a8f4e8ef6b3d9b9a3f738a4c170", func := "phosphor/phosphorlaw01.RendSays", spec := "rendSays", named := ["phosphor/rend.parts"], apart := false, laid := [("phosphor/rend.parts", laid_phosphor_rend_parts)], narrowed := true }
def RendSaysUptoSaid : Prop := rendSaysUptoRow.holds Tryd.pinned (OpenSpec.upto rendSaysSpec)

/-- 'phosphorlaw02.CellWeighs', WHERE WHAT IT READS IS OF BULK AT MOST 1048576: true; the input reads as it did. -/
def cellWeighsUptoRow : OpenClaim := { program := "ytdjbfnhgendacaadoor", sum := "c86b1e1a276ab3850781eaf79d01a82400157a8f4e8ef6b3d9b9a3f738a4c170", func := "phosphor/phosphorlaw02.CellWeighs", spec := "cellWeighs", named := ["phosphor/rend.parts"], apart := false, laid := [("phosphor/rend.parts", laid_phosphor_rend_parts)], narrowed := true }
def CellWeighsUptoSaid : Prop := cellWeighsUptoRow.holds Tryd.pinned (OpenSpec.upto cellWeighsSpec)

/-- 'phosphorlaw02.CellSums', WHERE WHAT IT READS IS OF BULK AT MOST 1048576: true; the input reads as it did. -/
def cellSumsUptoRow : OpenClaim := { program := "ytdjbfnhgendacaadoor", sum := "c86b1e1a276ab3850781eaf79d01a82400157a8f4e8ef6b3d9b9a3f738a4c170", func := "phosphor/phosphorlaw02.CellSums", spec := "cellSums", named := ["phosphor/rend.parts"], apart := false, laid := [("phosphor/rend.parts", laid_phosphor_rend_parts)], narrowed := true }
def CellSumsUptoSaid : Prop := cellSumsUptoRow.holds Tryd.pinned (OpenSpec.upto cellSumsSpec)

/-- 'phosphorlaw02.CellPacks', WHERE WHAT IT READS IS OF BULK AT MOST 1048576: true; the input reads as it did. -/
def cellPacksUptoRow : OpenClaim := { program := "ytdjbfnhgendacaadoor", sum := "c86b1e1a276ab3850781eaf79d01a82400157a8f4e8ef6b3d9b9a3f738a4c170", func := "phosphor/phosphorlaw02.CellPacks", spec := "cellPacks", named := ["phosphor/rend.parts"], apart := false, laid := [("phosphor/rend.parts", laid_phosphor_rend_parts)], narrowed := true }
def CellPacksUptoSaid : Prop := cellPacksUptoRow.holds Tryd.pinned (OpenSpec.upto cellPacksSpec)

/-- 'phosphorlaw02.CellKeeps', WHERE WHAT IT READS IS OF BULK AT MOST 1048576: true; the input reads as it did. -/
def cellKeepsUptoRow : OpenClaim := { program := "ytdjbfnhgendacaadoor", sum := "c86b1e1a276ab3850781eaf79d01a82400157a8f4e8ef6b3d9b9a3f738a4c170", func := "phosphor/phosphorlaw02.CellKeeps", spec := "cellKeeps", named := ["phosphor/rend.parts"], apart := false, laid := [("phosphor/rend.parts", laid_phosphor_rend_parts)], narrowed := true }
def CellKeepsUptoSaid : Prop := cellKeepsUptoRow.holds Tryd.pinned (OpenSpec.upto cellKeepsSpec)

/-- 'phosphorlaw02.CellTurns', WHERE WHAT IT READS IS OF BULK AT MOST 1048576: true; the input reads as it did. -/
def cellTurnsUptoRow : OpenClaim := { program := "ytdjbfnhgendacaadoor", sum := "c86b1e1a276ab3850781eaf79d01a82400157a8f4e8ef6b3d9b9a3f738a4c170", func := "phosphor/phosphorlaw02.CellTurns", spec := "cellTurns", named := ["phosphor/rend.parts"], apart := false, laid := [("phosphor/rend.parts", laid_phosphor_rend_parts)], narrowed := true }
def CellTurnsUptoSaid : Prop := cellTurnsUptoRow.holds Tryd.pinned (OpenSpec.upto cellTurnsSpec)

/-- 'phosphortop.PhosphorWeighed', WHERE WHAT IT READS IS OF BULK AT MOST 1048576: true; the input reads as it did. -/
def phosphorWeighedUptoRow : OpenClaim := { program := "ytdjbfnhgendacaadoor", sum := "c86b1e1a276ab3850781eaf79d01a82400157a8f4e8ef6b3d9b9a3f738a4c170", func := "phosphor/phosphortop.PhosphorWeighed", spec := "phosphorWeighed", named := ["phosphor/rend.parts"], apart := false, laid := [("phosphor/rend.parts", laid_phosphor_rend_parts)], narrowed := true }
def PhosphorWeighedUptoSaid : Prop := phosphorWeighedUptoRow.holds Tryd.pinned (OpenSpec.upto phosphorWeighedSpec)

end Rows
end Go.Proofs.YtdjbfnhgendacaaDoor

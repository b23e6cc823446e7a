/-
  NARROWER THAN 'FOR EVERY INPUT', by the rows' own cells (each row's printed sentence says how): LineKeeps: laid.
  DERIVED. THE GIVEN ROWS OF THIS SEAT. 1 by the template 'for every input the law returns true; each argument reads behind the call as it read before'; 0 by the template 'total and deterministic' (their statements: YtbndnaohjloanaaDoorTotals.lean).
  GIVEN WITH THE SEED: the statements are not yours to turn. If you find one false, say at which input.
  Laid BY PROGRAM, IN A SANDBOX (cutbox-rows.mjs): the forced cells as the released guide's own fill.sh prints them over the translation 2673107514e9e5c8… (all of the seat's roots in one cut). By AI agents, Wed Nov 11 2026. No macro, syntax, notation, axiom, sorry.
-/
import Derived.Test.YtbndnaohjloanaaDoorChecked
import GoSem.Claim
import GoSem.ClaimJoined
import GoSem.ClaimMapViews
import Derived.JoinedTies
import Derived.KernelRfl
namespace Go.Proofs.YtbndnaohjloanaaDoor
/- THE CELL 'sum', in the pinned program and in every row, IS THE sha256 OF THE DUMP (.gsa) THAT YtbndnaohjloanaaDoorProg.lean LOADS. Nothing in Lean hashes anything: it is a label: what it is worth is what the hold of that sum in a sandbox is worth. -/
noncomputable def Tryd.pinned : Pinned := { name := "ytbndnaohjloanaadoor", sum := "2673107514e9e5c8b7cf0fb6cf6100625077e160446ab4729a6e967a73bec9e2", checked := Tryd.checked }
namespace Rows
def none {H : Type} : Left H := { results := [], args := [] }

/- WHAT THE LISTED PACKAGE-LEVEL VARIABLES READ AS WHEN THE CALL BEGINS. Each datum BY PROGRAM (the guide's laid-datum.mjs) off the statement by which the dump's own 'gosem.cut.vars' lays the variable. In a bare row this is a premise. The card (YtbndnaohjloanaaDoorCards.lean) ties it to the program's text. -/
def laid_phosphor_rend_parts {H : Type} : DataW H := .agg [.agg [.lit (.int .u8 1), .lit (.int .i64 1), .lit (.int .i64 22), .lit (.int .u8 98), .lit (.int .i64 128)], .agg [.lit (.int .u8 2), .lit (.int .i64 4), .lit (.int .i64 24), .lit (.int .u8 117), .lit (.int .i64 16)], .agg [.lit (.int .u8 4), .lit (.int .i64 5), .lit (.int .i64 25), .lit (.int .u8 107), .lit (.int .i64 64)], .agg [.lit (.int .u8 8), .lit (.int .i64 7), .lit (.int .i64 27), .lit (.int .u8 114), .lit (.int .i64 32)], .agg [.lit (.int .u8 16), .lit (.int .i64 8), .lit (.int .i64 28), .lit (.int .u8 104), .lit (.int .i64 8)]]

/-- 'phosphorlaw03.LineKeeps': WHATEVER THE INPUT: true; the input reads as it did. -/
def lineKeepsSpec : ChangeSpec := { name := "lineKeeps", fn := fun _ => fun
  | [d1, d2] => { results := [.lit (.bool true)], args := [d1, d2] }
  | _ => none }
def lineKeepsRow : OpenClaim := { program := "ytbndnaohjloanaadoor", sum := "2673107514e9e5c8b7cf0fb6cf6100625077e160446ab4729a6e967a73bec9e2", func := "phosphor/phosphorlaw03.LineKeeps", spec := "lineKeeps", unfollowed := true, recurses := true, named := ["phosphor/rend.parts"], apart := false, laid := [("phosphor/rend.parts", laid_phosphor_rend_parts)] }
def LineKeepsSaid : Prop := lineKeepsRow.holds Tryd.pinned (OpenSpec.ofChange lineKeepsSpec)

/-- ITS FALSE NEIGHBOUR: 'it returns false'. Refute it at one input. -/
def lineKeepsWrong : ChangeSpec := { name := "lineKeeps", fn := fun _ => fun
  | [d1, d2] => { results := [.lit (.bool false)], args := [d1, d2] }
  | _ => none }
def LineKeepsWrongFalsely : Prop := lineKeepsRow.holds Tryd.pinned (OpenSpec.ofChange lineKeepsWrong)

/- THE SECOND FORM. 'bulk': how many values and letters a reading holds, each counted each time it is reached (what is shared counts as often as it is met; a slice's spare places count too). A statement '..UptoSaid' is the law's where the arguments, and the package variables that the reading takes, are together of bulk at most 1048576: NARROWER than '..Said'. Prove '..Said' where nothing that the law and all that it calls make is longer than what came in: it says more and counts as full. Else prove '..UptoSaid'. A law counts once. -/
mutual
def uptoBulk {H : Type} : DataW H → Nat
  | .lit (.string bytes) => bytes.length + 1
  | .lit _ => 1
  | .nil => 1
  | .ptr d => uptoBulk d + 1
  | .slice elems spare => uptoBulkAll elems + uptoBulkAll spare + 1
  | .agg parts => uptoBulkAll parts + 1
  | .iface _ d => uptoBulk d + 1
  | .map entries => uptoBulkEntries entries + 1
  | .held _ => 1
def uptoBulkAll {H : Type} : List (DataW H) → Nat
  | [] => 0
  | d :: r => uptoBulk d + uptoBulkAll r
def uptoBulkEntries {H : Type} : List (Lit × DataW H) → Nat
  | [] => 0
  | x :: r => uptoBulkEntry x + uptoBulkEntries r
def uptoBulkEntry {H : Type} : Lit × DataW H → Nat
  | (.string bytes, d) => bytes.length + uptoBulk d + 1
  | (_, d) => uptoBulk d + 1
 end
def uptoSmall : (H : Type) → List (DataW H) → Bool := fun _ ds => decide (uptoBulkAll ds ≤ 1048576)
def OpenSpec.upto (s : _root_.Go.ChangeSpec) : _root_.Go.OpenSpec := { _root_.Go.OpenSpec.ofChange s with cond := some uptoSmall }

/-- 'phosphorlaw03.LineKeeps', WHERE WHAT IT READS IS OF BULK AT MOST 1048576: true; the input reads as it did. -/
def lineKeepsUptoRow : OpenClaim := { program := "ytbndnaohjloanaadoor", sum := "2673107514e9e5c8b7cf0fb6cf6100625077e160446ab4729a6e967a73bec9e2", func := "phosphor/phosphorlaw03.LineKeeps", spec := "lineKeeps", unfollowed := true, recurses := true, named := ["phosphor/rend.parts"], apart := false, laid := [("phosphor/rend.parts", laid_phosphor_rend_parts)], narrowed := true }
def LineKeepsUptoSaid : Prop := lineKeepsUptoRow.holds Tryd.pinned (OpenSpec.upto lineKeepsSpec)

end Rows
end Go.Proofs.YtbndnaohjloanaaDoor

/-
  No cell of these rows narrows 'for every input' (looked for: loops, veiled, ifaces, maps, wideKeys, modest, calm, conditions, laid).
  DERIVED. THE GIVEN ROWS OF THIS SEAT. 3 by the template 'for every input the law returns true; each argument reads behind the call as it read before'; 0 by the template 'total and deterministic' (their statements: YtpiliicphoacfaaTotals.lean).
  GIVEN WITH THE SEED: the statements are not yours to turn. If you find one false, say at which input.
  Laid BY PROGRAM, IN A SANDBOX (cutbox-rows.mjs): the forced cells as the released guide's own fill.sh prints them over the translation d00671146c64fde7… (all of the seat's roots in one cut). By AI agents, Wed Nov 11 2026. No macro, syntax, notation, axiom, sorry.
-/
import Derived.Test.YtpiliicphoacfaaChecked
import GoSem.Claim
import GoSem.ClaimJoined
import GoSem.ClaimMapViews
import Derived.JoinedTies
import Derived.KernelRfl
namespace Go.Proofs.Ytpiliicphoacfaa
/- THE CELL 'sum', in the pinned program and in every row, IS THE sha256 OF THE DUMP (.gsa) THAT YtpiliicphoacfaaProg.lean LOADS. Nothing in Lean hashes anything: it is a label: what it is worth is what the hold of that sum in a sandbox is worth. -/
noncomputable def Try.pinned : Pinned := { name := "ytpiliicphoacfaa", sum := "d00671146c64fde76e334fa6572f166b178462fb438682a22aa0bffba3ada4a5", checked := Try.checked }
namespace Rows
def none {H : Type} : Left H := { results := [], args := [] }

/-- 'phosphorlaw12.ParserChunks': WHATEVER THE INPUT: true; the input reads as it did. -/
def parserChunksSpec : ChangeSpec := { name := "parserChunks", fn := fun _ => fun
  | [d1, d2] => { results := [.lit (.bool true)], args := [d1, d2] }
  | _ => none }
def parserChunksRow : OpenClaim := { program := "ytpiliicphoacfaa", sum := "d00671146c64fde76e334fa6572f166b178462fb438682a22aa0bffba3ada4a5", func := "phosphor/phosphorlaw12.ParserChunks", spec := "parserChunks", unfollowed := true, recurses := true, apart := false }
def ParserChunksSaid : Prop := parserChunksRow.holds Try.pinned (OpenSpec.ofChange parserChunksSpec)

/-- ITS FALSE NEIGHBOUR: 'it returns false'. Refute it at one input. -/
def parserChunksWrong : ChangeSpec := { name := "parserChunks", fn := fun _ => fun
  | [d1, d2] => { results := [.lit (.bool false)], args := [d1, d2] }
  | _ => none }
def ParserChunksWrongFalsely : Prop := parserChunksRow.holds Try.pinned (OpenSpec.ofChange parserChunksWrong)

/-- 'phosphorlaw12.ParserEnds': WHATEVER THE INPUT: true; the input reads as it did. -/
def parserEndsSpec : ChangeSpec := { name := "parserEnds", fn := fun _ => fun
  | [d1, d2] => { results := [.lit (.bool true)], args := [d1, d2] }
  | _ => none }
def parserEndsRow : OpenClaim := { program := "ytpiliicphoacfaa", sum := "d00671146c64fde76e334fa6572f166b178462fb438682a22aa0bffba3ada4a5", func := "phosphor/phosphorlaw12.ParserEnds", spec := "parserEnds", unfollowed := true, recurses := true, apart := false }
def ParserEndsSaid : Prop := parserEndsRow.holds Try.pinned (OpenSpec.ofChange parserEndsSpec)

/-- ITS FALSE NEIGHBOUR: 'it returns false'. Refute it at one input. -/
def parserEndsWrong : ChangeSpec := { name := "parserEnds", fn := fun _ => fun
  | [d1, d2] => { results := [.lit (.bool false)], args := [d1, d2] }
  | _ => none }
def ParserEndsWrongFalsely : Prop := parserEndsRow.holds Try.pinned (OpenSpec.ofChange parserEndsWrong)

/-- 'phosphorlaw12.ParserKeeps': WHATEVER THE INPUT: true; the input reads as it did. -/
def parserKeepsSpec : ChangeSpec := { name := "parserKeeps", fn := fun _ => fun
  | [d] => { results := [.lit (.bool true)], args := [d] }
  | _ => none }
def parserKeepsRow : OpenClaim := { program := "ytpiliicphoacfaa", sum := "d00671146c64fde76e334fa6572f166b178462fb438682a22aa0bffba3ada4a5", func := "phosphor/phosphorlaw12.ParserKeeps", spec := "parserKeeps", unfollowed := true, recurses := true, apart := false }
def ParserKeepsSaid : Prop := parserKeepsRow.holds Try.pinned (OpenSpec.ofChange parserKeepsSpec)

/-- ITS FALSE NEIGHBOUR: 'it returns false'. Refute it at one input. -/
def parserKeepsWrong : ChangeSpec := { name := "parserKeeps", fn := fun _ => fun
  | [d] => { results := [.lit (.bool false)], args := [d] }
  | _ => none }
def ParserKeepsWrongFalsely : Prop := parserKeepsRow.holds Try.pinned (OpenSpec.ofChange parserKeepsWrong)

/- THE SECOND FORM. 'bulk': how many values and letters a reading holds, each counted each time it is reached (what is shared counts as often as it is met; a slice's spare places count too). A statement '..UptoSaid' is the law's where the arguments, and the package variables that the reading takes, are together of bulk at most 1048576: NARROWER than '..Said'. Prove '..Said' where nothing that the law and all that it calls make is longer than what came in: it says more and counts as full. Else prove '..UptoSaid'. A law counts once. -/
mutual
def uptoBulk {H : Type} : DataW H → Nat
  | .lit (.string bytes) => bytes.length + 1
  | .lit _ => 1
  | .nil => 1
  | .ptr d => uptoBulk d + 1
  | .slice elems spare => uptoBulkAll elems + uptoBulkAll spare + 1
  | .agg parts => uptoBulkAll parts + 1
  | .iface _ d => uptoBulk d + 1
  | .map entries => uptoBulkEntries entries + 1
  | .held _ => 1
def uptoBulkAll {H : Type} : List (DataW H) → Nat
  | [] => 0
  | d :: r => uptoBulk d + uptoBulkAll r
def uptoBulkEntries {H : Type} : List (Lit × DataW H) → Nat
  | [] => 0
  | x :: r => uptoBulkEntry x + uptoBulkEntries r
def uptoBulkEntry {H : Type} : Lit × DataW H → Nat
  | (.string bytes, d) => bytes.length + uptoBulk d + 1
  | (_, d) => uptoBulk d + 1
 end
def uptoSmall : (H : Type) → List (DataW H) → Bool := fun _ ds => decide (uptoBulkAll ds ≤ 1048576)
def OpenSpec.upto (s : _root_.Go.ChangeSpec) : _root_.Go.OpenSpec := { _root_.Go.OpenSpec.ofChange s with cond := some uptoSmall }

/-- 'phosphorlaw12.ParserChunks', WHERE WHAT IT READS IS OF BULK AT MOST 1048576: true; the input reads as it did. -/
def parserChunksUptoRow : OpenClaim := { program := "ytpiliicphoacfaa", sum := "d00671146c64fde76e334fa6572f166b178462fb438682a22aa0bffba3ada4a5", func := "phosphor/phosphorlaw12.ParserChunks", spec := "parserChunks", unfollowed := true, recurses := true, apart := false, narrowed := true }
def ParserChunksUptoSaid : Prop := parserChunksUptoRow.holds Try.pinned (OpenSpec.upto parserChunksSpec)

/-- 'phosphorlaw12.ParserEnds', WHERE WHAT IT READS IS OF BULK AT MOST 1048576: true; the input reads as it did. -/
def parserEndsUptoRow : OpenClaim := { program := "ytpiliicphoacfaa", sum := "d00671146c64fde76e334fa6572f166b178462fb438682a22aa0bffba3ada4a5", func := "phosphor/phosphorlaw12.ParserEnds", spec := "parserEnds", unfollowed := true, recurses := true, apart := false, narrowed := true }
def ParserEndsUptoSaid : Prop := parserEndsUptoRow.holds Try.pinned (OpenSpec.upto parserEndsSpec)

/-- 'phosphorlaw12.ParserKeeps', WHERE WHAT IT READS IS OF BULK AT MOST 1048576: true; the input reads as it did. -/
def parserKeepsUptoRow : OpenClaim := { program := "ytpiliicphoacfaa", sum := "d00671146c64fde76e334fa6572f166b178462fb438682a22aa0bffba3ada4a5", func := "phosphor/phosphorlaw12.ParserKeeps", spec := "parserKeeps", unfollowed := true, recurses := true, apart := false, narrowed := true }
def ParserKeepsUptoSaid : Prop := parserKeepsUptoRow.holds Try.pinned (OpenSpec.upto parserKeepsSpec)

end Rows
end Go.Proofs.Ytpiliicphoacfaa

/-
  No cell of these rows narrows 'for every input' (looked for: loops, veiled, ifaces, maps, wideKeys, modest, calm, conditions, laid).
  DERIVED. THE GIVEN ROWS OF THIS SEAT. 5 by the template 'for every input the law returns true; each argument reads behind the call as it read before'; 0 by the template 'total and deterministic' (their statements: YtilfhilebdkmkaaTotals.lean).
  GIVEN WITH THE SEED: the statements are not yours to turn. If you find one false, say at which input.
  Laid BY PROGRAM, IN A SANDBOX (cutbox-rows.mjs): the forced cells as the released guide's own fill.sh prints them over the translation b2a382d2b9bf5f4b… (all of the seat's roots in one cut). By AI agents, Wed Nov 11 2026. No macro, syntax, notation, axiom, sorry.
-/
import Derived.Test.YtilfhilebdkmkaaChecked
import GoSem.Claim
import GoSem.ClaimJoined
import GoSem.ClaimMapViews
import Derived.JoinedTies
import Derived.KernelRfl
namespace Go.Proofs.Ytilfhilebdkmkaa
/- THE CELL 'sum', in the pinned program and in every row, IS THE sha256 OF THE DUMP (.gsa) THAT YtilfhilebdkmkaaProg.lean LOADS. Nothing in Lean hashes anything: it is a label: what it is worth is what the hold of that sum in a sandbox is worth. -/
noncomputable def Try.pinned : Pinned := { name := "ytilfhilebdkmkaa", sum := "b2a382d2b9bf5f4bbbc86fc141351f52b4aaa71f1c628159042a117b8c163310", checked := Try.checked }
namespace Rows
def none {H : Type} : Left H := { results := [], args := [] }

/-- 'phosphorlaw13.CursMoves': WHATEVER THE INPUT: true; the input reads as it did. -/
def cursMovesSpec : ChangeSpec := { name := "cursMoves", fn := fun _ => fun
  | [d1, d2, d3] => { results := [.lit (.bool true)], args := [d1, d2, d3] }
  | _ => none }
def cursMovesRow : OpenClaim := { program := "ytilfhilebdkmkaa", sum := "b2a382d2b9bf5f4bbbc86fc141351f52b4aaa71f1c628159042a117b8c163310", func := "phosphor/phosphorlaw13.CursMoves", spec := "cursMoves", apart := false }
def CursMovesSaid : Prop := cursMovesRow.holds Try.pinned (OpenSpec.ofChange cursMovesSpec)

/-- ITS FALSE NEIGHBOUR: 'it returns false'. Refute it at one input. -/
def cursMovesWrong : ChangeSpec := { name := "cursMoves", fn := fun _ => fun
  | [d1, d2, d3] => { results := [.lit (.bool false)], args := [d1, d2, d3] }
  | _ => none }
def CursMovesWrongFalsely : Prop := cursMovesRow.holds Try.pinned (OpenSpec.ofChange cursMovesWrong)

/-- 'phosphorlaw13.CursStays': WHATEVER THE INPUT: true; the input reads as it did. -/
def cursStaysSpec : ChangeSpec := { name := "cursStays", fn := fun _ => fun
  | [d1, d2, d3] => { results := [.lit (.bool true)], args := [d1, d2, d3] }
  | _ => none }
def cursStaysRow : OpenClaim := { program := "ytilfhilebdkmkaa", sum := "b2a382d2b9bf5f4bbbc86fc141351f52b4aaa71f1c628159042a117b8c163310", func := "phosphor/phosphorlaw13.CursStays", spec := "cursStays", apart := false }
def CursStaysSaid : Prop := cursStaysRow.holds Try.pinned (OpenSpec.ofChange cursStaysSpec)

/-- ITS FALSE NEIGHBOUR: 'it returns false'. Refute it at one input. -/
def cursStaysWrong : ChangeSpec := { name := "cursStays", fn := fun _ => fun
  | [d1, d2, d3] => { results := [.lit (.bool false)], args := [d1, d2, d3] }
  | _ => none }
def CursStaysWrongFalsely : Prop := cursStaysRow.holds Try.pinned (OpenSpec.ofChange cursStaysWrong)

/-- 'phosphorlaw13.CursFits': WHATEVER THE INPUT: true; the input reads as it did. -/
def cursFitsSpec : ChangeSpec := { name := "cursFits", fn := fun _ => fun
  | [d1, d2] => { results := [.lit (.bool true)], args := [d1, d2] }
  | _ => none }
def cursFitsRow : OpenClaim := { program := "ytilfhilebdkmkaa", sum := "b2a382d2b9bf5f4bbbc86fc141351f52b4aaa71f1c628159042a117b8c163310", func := "phosphor/phosphorlaw13.CursFits", spec := "cursFits", apart := false }
def CursFitsSaid : Prop := cursFitsRow.holds Try.pinned (OpenSpec.ofChange cursFitsSpec)

/-- ITS FALSE NEIGHBOUR: 'it returns false'. Refute it at one input. -/
def cursFitsWrong : ChangeSpec := { name := "cursFits", fn := fun _ => fun
  | [d1, d2] => { results := [.lit (.bool false)], args := [d1, d2] }
  | _ => none }
def CursFitsWrongFalsely : Prop := cursFitsRow.holds Try.pinned (OpenSpec.ofChange cursFitsWrong)

/-- 'phosphorlaw13.CursJoins': WHATEVER THE INPUT: true; the input reads as it did. -/
def cursJoinsSpec : ChangeSpec := { name := "cursJoins", fn := fun _ => fun
  | [d1, d2, d3] => { results := [.lit (.bool true)], args := [d1, d2, d3] }
  | _ => none }
def cursJoinsRow : OpenClaim := { program := "ytilfhilebdkmkaa", sum := "b2a382d2b9bf5f4bbbc86fc141351f52b4aaa71f1c628159042a117b8c163310", func := "phosphor/phosphorlaw13.CursJoins", spec := "cursJoins", apart := false }
def CursJoinsSaid : Prop := cursJoinsRow.holds Try.pinned (OpenSpec.ofChange cursJoinsSpec)

/-- ITS FALSE NEIGHBOUR: 'it returns false'. Refute it at one input. -/
def cursJoinsWrong : ChangeSpec := { name := "cursJoins", fn := fun _ => fun
  | [d1, d2, d3] => { results := [.lit (.bool false)], args := [d1, d2, d3] }
  | _ => none }
def CursJoinsWrongFalsely : Prop := cursJoinsRow.holds Try.pinned (OpenSpec.ofChange cursJoinsWrong)

/-- 'phosphorlaw13.CursGoes': WHATEVER THE INPUT: true; the input reads as it did. -/
def cursGoesSpec : ChangeSpec := { name := "cursGoes", fn := fun _ => fun
  | [d1, d2, d3] => { results := [.lit (.bool true)], args := [d1, d2, d3] }
  | _ => none }
def cursGoesRow : OpenClaim := { program := "ytilfhilebdkmkaa", sum := "b2a382d2b9bf5f4bbbc86fc141351f52b4aaa71f1c628159042a117b8c163310", func := "phosphor/phosphorlaw13.CursGoes", spec := "cursGoes", apart := false }
def CursGoesSaid : Prop := cursGoesRow.holds Try.pinned (OpenSpec.ofChange cursGoesSpec)

/-- ITS FALSE NEIGHBOUR: 'it returns false'. Refute it at one input. -/
def cursGoesWrong : ChangeSpec := { name := "cursGoes", fn := fun _ => fun
  | [d1, d2, d3] => { results := [.lit (.bool false)], args := [d1, d2, d3] }
  | _ => none }
def CursGoesWrongFalsely : Prop := cursGoesRow.holds Try.pinned (OpenSpec.ofChange cursGoesWrong)

/- THE SECOND FORM. 'bulk': how many values and letters a reading holds, each counted each time it is reached (what is shared counts as often as it is met; a slice's spare places count too). A statement '..UptoSaid' is the law's where the arguments, and the package variables that the reading takes, are together of bulk at most 1048576: NARROWER than '..Said'. Prove '..Said' where nothing that the law and all that it calls make is longer than what came in: it says more and counts as full. Else prove '..UptoSaid'. A law counts once. -/
mutual
def uptoBulk {H : Type} : DataW H → Nat
  | .lit (.string bytes) => bytes.length + 1
  | .lit _ => 1
  | .nil => 1
  | .ptr d => uptoBulk d + 1
  | .slice elems spare => uptoBulkAll elems + uptoBulkAll spare + 1
  | .agg parts => uptoBulkAll parts + 1
  | .iface _ d => uptoBulk d + 1
  | .map entries => uptoBulkEntries entries + 1
  | .held _ => 1
def uptoBulkAll {H : Type} : List (DataW H) → Nat
  | [] => 0
  | d :: r => uptoBulk d + uptoBulkAll r
def uptoBulkEntries {H : Type} : List (Lit × DataW H) → Nat
  | [] => 0
  | x :: r => uptoBulkEntry x + uptoBulkEntries r
def uptoBulkEntry {H : Type} : Lit × DataW H → Nat
  | (.string bytes, d) => bytes.length + uptoBulk d + 1
  | (_, d) => uptoBulk d + 1
 end
def uptoSmall : (H : Type) → List (DataW H) → Bool := fun _ ds => decide (uptoBulkAll ds ≤ 1048576)
def OpenSpec.upto (s : _root_.Go.ChangeSpec) : _root_.Go.OpenSpec := { _root_.Go.OpenSpec.ofChange s with cond := some uptoSmall }

/-- 'phosphorlaw13.CursMoves', WHERE WHAT IT READS IS OF BULK AT MOST 1048576: true; the input reads as it did. -/
def cursMovesUptoRow : OpenClaim := { program := "ytilfhilebdkmkaa", sum := "b2a382d2b9bf5f4bbbc86fc141351f52b4aaa71f1c628159042a117b8c163310", func := "phosphor/phosphorlaw13.CursMoves", spec := "cursMoves", apart := false, narrowed := true }
def CursMovesUptoSaid : Prop := cursMovesUptoRow.holds Try.pinned (OpenSpec.upto cursMovesSpec)

/-- 'phosphorlaw13.CursStays', WHERE WHAT IT READS IS OF BULK AT MOST 1048576: true; the input reads as it did. -/
def cursStaysUptoRow : OpenClaim := { program := "ytilfhilebdkmkaa", sum := "b2a382d2b9bf5f4bbbc86fc141351f52b4aaa71f1c628159042a117b8c163310", func := "phosphor/phosphorlaw13.CursStays", spec := "cursStays", apart := false, narrowed := true }
def CursStaysUptoSaid : Prop := cursStaysUptoRow.holds Try.pinned (OpenSpec.upto cursStaysSpec)

/-- 'phosphorlaw13.CursFits', WHERE WHAT IT READS IS OF BULK AT MOST 1048576: true; the input reads as it did. -/
def cursFitsUptoRow : OpenClaim := { program := "ytilfhilebdkmkaa", sum := "b2a382d2b9bf5f4bbbc86fc141351f52b4aaa71f1c628159042a117b8c163310", func := "phosphor/phosphorlaw13.CursFits", spec := "cursFits", apart := false, narrowed := true }
def CursFitsUptoSaid : Prop := cursFitsUptoRow.holds Try.pinned (OpenSpec.upto cursFitsSpec)

/-- 'phosphorlaw13.CursJoins', WHERE WHAT IT READS IS OF BULK AT MOST 1048576: true; the input reads as it did. -/
def cursJoinsUptoRow : OpenClaim := { program := "ytilfhilebdkmkaa", sum := "b2a382d2b9bf5f4bbbc86fc141351f52b4aaa71f1c628159042a117b8c163310", func := "phosphor/phosphorlaw13.CursJoins", spec := "cursJoins", apart := false, narrowed := true }
def CursJoinsUptoSaid : Prop := cursJoinsUptoRow.holds Try.pinned (OpenSpec.upto cursJoinsSpec)

/-- 'phosphorlaw13.CursGoes', WHERE WHAT IT READS IS OF BULK AT MOST 1048576: true; the input reads as it did. -/
def cursGoesUptoRow : OpenClaim := { program := "ytilfhilebdkmkaa", sum := "b2a382d2b9bf5f4bbbc86fc141351f52b4aaa71f1c628159042a117b8c163310", func := "phosphor/phosphorlaw13.CursGoes", spec := "cursGoes", apart := false, narrowed := true }
def CursGoesUptoSaid : Prop := cursGoesUptoRow.holds Try.pinned (OpenSpec.upto cursGoesSpec)

end Rows
end Go.Proofs.Ytilfhilebdkmkaa

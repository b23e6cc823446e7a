/-
  No cell of these rows narrows 'for every input' (looked for: loops, veiled, ifaces, maps, wideKeys, modest, calm, conditions, laid).
  DERIVED. THE GIVEN ROWS OF THIS SEAT. 5 by the template 'for every input the law returns true; each argument reads behind the call as it read before'; 0 by the template 'total and deterministic' (their statements: YtnbopgnpkbdjdaaTotals.lean).
  GIVEN WITH THE SEED: the statements are not yours to turn. If you find one false, say at which input.
  Laid BY PROGRAM, IN A SANDBOX (cutbox-rows.mjs): the forced cells as the released guide's own fill.sh prints them over the translation 24305e01af054ea6… (all of the seat's roots in one cut). By AI agents, Wed Nov 11 2026. No macro, syntax, notation, axiom, sorry.
-/
import Derived.Test.YtnbopgnpkbdjdaaChecked
import GoSem.Claim
import GoSem.ClaimJoined
import GoSem.ClaimMapViews
import Derived.JoinedTies
import Derived.KernelRfl
namespace Go.Proofs.Ytnbopgnpkbdjdaa
/- THE CELL 'sum', in the pinned program and in every row, IS THE sha256 OF THE DUMP (.gsa) THAT YtnbopgnpkbdjdaaProg.lean LOADS. Nothing in Lean hashes anything: it is a label: what it is worth is what the hold of that sum in a sandbox is worth. -/
noncomputable def Try.pinned : Pinned := { name := "ytnbopgnpkbdjdaa", sum := "24305e01af054ea63a9978d86844244d19030cab979b553861faedc1700a3957", checked := Try.checked }
namespace Rows
def none {H : Type} : Left H := { results := [], args := [] }

/-- 'phosphorlaw06.TabsPlay': WHATEVER THE INPUT: true; the input reads as it did. -/
def tabsPlaySpec : ChangeSpec := { name := "tabsPlay", fn := fun _ => fun
  | [d1, d2] => { results := [.lit (.bool true)], args := [d1, d2] }
  | _ => none }
def tabsPlayRow : OpenClaim := { program := "ytnbopgnpkbdjdaa", sum := "24305e01af054ea63a9978d86844244d19030cab979b553861faedc1700a3957", func := "phosphor/phosphorlaw06.TabsPlay", spec := "tabsPlay", inPlace := ["internal/bytealg.IndexByteString", "internal/bytealg.IndexString"], unfollowed := true, recurses := true, named := ["internal/bytealg.MaxLen"], apart := false }
def TabsPlaySaid : Prop := tabsPlayRow.holds Try.pinned (OpenSpec.ofChange tabsPlaySpec)

/-- ITS FALSE NEIGHBOUR: 'it returns false'. Refute it at one input. -/
def tabsPlayWrong : ChangeSpec := { name := "tabsPlay", fn := fun _ => fun
  | [d1, d2] => { results := [.lit (.bool false)], args := [d1, d2] }
  | _ => none }
def TabsPlayWrongFalsely : Prop := tabsPlayRow.holds Try.pinned (OpenSpec.ofChange tabsPlayWrong)

/-- 'phosphorlaw06.TabsMove': WHATEVER THE INPUT: true; the input reads as it did. -/
def tabsMoveSpec : ChangeSpec := { name := "tabsMove", fn := fun _ => fun
  | [d1, d2, d3] => { results := [.lit (.bool true)], args := [d1, d2, d3] }
  | _ => none }
def tabsMoveRow : OpenClaim := { program := "ytnbopgnpkbdjdaa", sum := "24305e01af054ea63a9978d86844244d19030cab979b553861faedc1700a3957", func := "phosphor/phosphorlaw06.TabsMove", spec := "tabsMove", inPlace := ["internal/bytealg.IndexByteString", "internal/bytealg.IndexString"], unfollowed := true, recurses := true, named := ["internal/bytealg.MaxLen"], apart := false }
def TabsMoveSaid : Prop := tabsMoveRow.holds Try.pinned (OpenSpec.ofChange tabsMoveSpec)

/-- ITS FALSE NEIGHBOUR: 'it returns false'. Refute it at one input. -/
def tabsMoveWrong : ChangeSpec := { name := "tabsMove", fn := fun _ => fun
  | [d1, d2, d3] => { results := [.lit (.bool false)], args := [d1, d2, d3] }
  | _ => none }
def TabsMoveWrongFalsely : Prop := tabsMoveRow.holds Try.pinned (OpenSpec.ofChange tabsMoveWrong)

/-- 'phosphorlaw06.TabsRound': WHATEVER THE INPUT: true; the input reads as it did. -/
def tabsRoundSpec : ChangeSpec := { name := "tabsRound", fn := fun _ => fun
  | [d1, d2] => { results := [.lit (.bool true)], args := [d1, d2] }
  | _ => none }
def tabsRoundRow : OpenClaim := { program := "ytnbopgnpkbdjdaa", sum := "24305e01af054ea63a9978d86844244d19030cab979b553861faedc1700a3957", func := "phosphor/phosphorlaw06.TabsRound", spec := "tabsRound", inPlace := ["internal/bytealg.IndexByteString", "internal/bytealg.IndexString"], unfollowed := true, recurses := true, named := ["internal/bytealg.MaxLen"], apart := false }
def TabsRoundSaid : Prop := tabsRoundRow.holds Try.pinned (OpenSpec.ofChange tabsRoundSpec)

/-- ITS FALSE NEIGHBOUR: 'it returns false'. Refute it at one input. -/
def tabsRoundWrong : ChangeSpec := { name := "tabsRound", fn := fun _ => fun
  | [d1, d2] => { results := [.lit (.bool false)], args := [d1, d2] }
  | _ => none }
def TabsRoundWrongFalsely : Prop := tabsRoundRow.holds Try.pinned (OpenSpec.ofChange tabsRoundWrong)

/-- 'phosphorlaw06.TabsGrow': WHATEVER THE INPUT: true; the input reads as it did. -/
def tabsGrowSpec : ChangeSpec := { name := "tabsGrow", fn := fun _ => fun
  | [d1, d2, d3] => { results := [.lit (.bool true)], args := [d1, d2, d3] }
  | _ => none }
def tabsGrowRow : OpenClaim := { program := "ytnbopgnpkbdjdaa", sum := "24305e01af054ea63a9978d86844244d19030cab979b553861faedc1700a3957", func := "phosphor/phosphorlaw06.TabsGrow", spec := "tabsGrow", inPlace := ["internal/bytealg.IndexByteString", "internal/bytealg.IndexString"], unfollowed := true, recurses := true, named := ["internal/bytealg.MaxLen"], apart := false }
def TabsGrowSaid : Prop := tabsGrowRow.holds Try.pinned (OpenSpec.ofChange tabsGrowSpec)

/-- ITS FALSE NEIGHBOUR: 'it returns false'. Refute it at one input. -/
def tabsGrowWrong : ChangeSpec := { name := "tabsGrow", fn := fun _ => fun
  | [d1, d2, d3] => { results := [.lit (.bool false)], args := [d1, d2, d3] }
  | _ => none }
def TabsGrowWrongFalsely : Prop := tabsGrowRow.holds Try.pinned (OpenSpec.ofChange tabsGrowWrong)

/-- 'phosphorlaw06.TabsKeeps': WHATEVER THE INPUT: true; the input reads as it did. -/
def tabsKeepsSpec : ChangeSpec := { name := "tabsKeeps", fn := fun _ => fun
  | [d] => { results := [.lit (.bool true)], args := [d] }
  | _ => none }
def tabsKeepsRow : OpenClaim := { program := "ytnbopgnpkbdjdaa", sum := "24305e01af054ea63a9978d86844244d19030cab979b553861faedc1700a3957", func := "phosphor/phosphorlaw06.TabsKeeps", spec := "tabsKeeps", inPlace := ["internal/bytealg.IndexByteString", "internal/bytealg.IndexString"], unfollowed := true, recurses := true, named := ["internal/bytealg.MaxLen"], apart := false }
def TabsKeepsSaid : Prop := tabsKeepsRow.holds Try.pinned (OpenSpec.ofChange tabsKeepsSpec)

/-- ITS FALSE NEIGHBOUR: 'it returns false'. Refute it at one input. -/
def tabsKeepsWrong : ChangeSpec := { name := "tabsKeeps", fn := fun _ => fun
  | [d] => { results := [.lit (.bool false)], args := [d] }
  | _ => none }
def TabsKeepsWrongFalsely : Prop := tabsKeepsRow.holds Try.pinned (OpenSpec.ofChange tabsKeepsWrong)

/- THE SECOND FORM. 'bulk': how many values and letters a reading holds, each counted each time it is reached (what is shared counts as often as it is met; a slice's spare places count too). A statement '..UptoSaid' is the law's where the arguments, and the package variables that the reading takes, are together of bulk at most 1048576: NARROWER than '..Said'. Prove '..Said' where nothing that the law and all that it calls make is longer than what came in: it says more and counts as full. Else prove '..UptoSaid'. A law counts once. -/
mutual
def uptoBulk {H : Type} : DataW H → Nat
  | .lit (.string bytes) => bytes.length + 1
  | .lit _ => 1
  | .nil => 1
  | .ptr d => uptoBulk d + 1
  | .slice elems spare => uptoBulkAll elems + uptoBulkAll spare + 1
  | .agg parts => uptoBulkAll parts + 1
  | .iface _ d => uptoBulk d + 1
  | .map entries => uptoBulkEntries entries + 1
  | .held _ => 1
def uptoBulkAll {H : Type} : List (DataW H) → Nat
  | [] => 0
  | d :: r => uptoBulk d + uptoBulkAll r
def uptoBulkEntries {H : Type} : List (Lit × DataW H) → Nat
  | [] => 0
  | x :: r => uptoBulkEntry x + uptoBulkEntries r
def uptoBulkEntry {H : Type} : Lit × DataW H → Nat
  | (.string bytes, d) => bytes.length + uptoBulk d + 1
  | (_, d) => uptoBulk d + 1
 end
def uptoSmall : (H : Type) → List (DataW H) → Bool := fun _ ds => decide (uptoBulkAll ds ≤ 1048576)
def OpenSpec.upto (s : _root_.Go.ChangeSpec) : _root_.Go.OpenSpec := { _root_.Go.OpenSpec.ofChange s with cond := some uptoSmall }

/-- 'phosphorlaw06.TabsPlay', WHERE WHAT IT READS IS OF BULK AT MOST 1048576: true; the input reads as it did. -/
def tabsPlayUptoRow : OpenClaim := { program := "ytnbopgnpkbdjdaa", sum := "24305e01af054ea63a9978d86844244d19030cab979b553861faedc1700a3957", func := "phosphor/phosphorlaw06.TabsPlay", spec := "tabsPlay", inPlace := ["internal/bytealg.IndexByteString", "internal/bytealg.IndexString"], unfollowed := true, recurses := true, named := ["internal/bytealg.MaxLen"], apart := false, narrowed := true }
def TabsPlayUptoSaid : Prop := tabsPlayUptoRow.holds Try.pinned (OpenSpec.upto tabsPlaySpec)

/-- 'phosphorlaw06.TabsMove', WHERE WHAT IT READS IS OF BULK AT MOST 1048576: true; the input reads as it did. -/
def tabsMoveUptoRow : OpenClaim := { program := "ytnbopgnpkbdjdaa", sum := "24305e01af054ea63a9978d86844244d19030cab979b553861faedc1700a3957", func := "phosphor/phosphorlaw06.TabsMove", spec := "tabsMove", inPlace := ["internal/bytealg.IndexByteString", "internal/bytealg.IndexString"], unfollowed := true, recurses := true, named := ["internal/bytealg.MaxLen"], apart := false, narrowed := true }
def TabsMoveUptoSaid : Prop := tabsMoveUptoRow.holds Try.pinned (OpenSpec.upto tabsMoveSpec)

/-- 'phosphorlaw06.TabsRound', WHERE WHAT IT READS IS OF BULK AT MOST 1048576: true; the input reads as it did. -/
def tabsRoundUptoRow : OpenClaim := { program := "ytnbopgnpkbdjdaa", sum := "24305e01af054ea63a9978d86844244d19030cab979b553861faedc1700a3957", func := "phosphor/phosphorlaw06.TabsRound", spec := "tabsRound", inPlace := ["internal/bytealg.IndexByteString", "internal/bytealg.IndexString"], unfollowed := true, recurses := true, named := ["internal/bytealg.MaxLen"], apart := false, narrowed := true }
def TabsRoundUptoSaid : Prop := tabsRoundUptoRow.holds Try.pinned (OpenSpec.upto tabsRoundSpec)

/-- 'phosphorlaw06.TabsGrow', WHERE WHAT IT READS IS OF BULK AT MOST 1048576: true; the input reads as it did. -/
def tabsGrowUptoRow : OpenClaim := { program := "ytnbopgnpkbdjdaa", sum := "24305e01af054ea63a9978d86844244d19030cab979b553861faedc1700a3957", func := "phosphor/phosphorlaw06.TabsGrow", spec := "tabsGrow", inPlace := ["internal/bytealg.IndexByteString", "internal/bytealg.IndexString"], unfollowed := true, recurses := true, named := ["internal/bytealg.MaxLen"], apart := false, narrowed := true }
def TabsGrowUptoSaid : Prop := tabsGrowUptoRow.holds Try.pinned (OpenSpec.upto tabsGrowSpec)

/-- 'phosphorlaw06.TabsKeeps', WHERE WHAT IT READS IS OF BULK AT MOST 1048576: true; the input reads as it did. -/
def tabsKeepsUptoRow : OpenClaim := { program := "ytnbopgnpkbdjdaa", sum := "24305e01af054ea63a9978d86844244d19030cab979b553861faedc1700a3957", func := "phosphor/phosphorlaw06.TabsKeeps", spec := "tabsKeeps", inPlace := ["internal/bytealg.IndexByteString", "internal/bytealg.IndexString"], unfollowed := true, recurses := true, named := ["internal/bytealg.MaxLen"], apart := false, narrowed := true }
def TabsKeepsUptoSaid : Prop := tabsKeepsUptoRow.holds Try.pinned (OpenSpec.upto tabsKeepsSpec)

end Rows
end Go.Proofs.Ytnbopgnpkbdjdaa

/-
  Two lists of ints held against each other.
-/
import Derived.Test.YtlhabooeeohniaaDoorGen
namespace Go.Proofs.YtlhabooeeohniaaDoor

open Go.RowKit


end Go.Proofs.YtlhabooeeohniaaDoor

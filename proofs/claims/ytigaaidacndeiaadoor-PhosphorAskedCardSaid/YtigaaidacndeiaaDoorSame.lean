/-
  Two lists of ints held against each other.
-/
import Derived.Test.YtigaaidacndeiaaDoorGen
namespace Go.Proofs.YtigaaidacndeiaaDoor

open Go.RowKit


end Go.Proofs.YtigaaidacndeiaaDoor

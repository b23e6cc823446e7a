/-
  The walks of numbers that are asked for.
-/
import Derived.Test.YtigaaidacndeiaaDoorClip
namespace Go.Proofs.YtigaaidacndeiaaDoor

open Go.RowKit



end Go.Proofs.YtigaaidacndeiaaDoor

/-
  Cursors: within a width; numbers of a move.
-/
import Derived.Test.YtfnamfkjbkhgeaaGreatDoorCurC
namespace Go.Proofs.YtfnamfkjbkhgeaaGreatDoor

open Go Go.RowKit

def fitC (c width : Int) : Int := clipP c 0 (max width 1 - 1)
def fitW (c width : Int) (wp : Bool) : Bool := if fitC c width = c then wp else false
theorem Bs.start2' (w : World) (T U : TypeId) (x y : Array Value) : Bs w [(w.heap.size, T, x), (w.heap.size + 1, U, y)] ((w.alloc (.cells x T)).alloc (.cells y U)) := (Bs.start2 w T U x y).sw1
def fewP (at_ n first margin : Int) : Int := at_ - clipP n 0 (at_ - if margin ≤ at_ then margin else first)
def curMoreP (at_ n last margin : Int) : Int := at_ + clipP n 0 ((if at_ ≤ margin then margin else last) - at_)
def nearC (first below n : Int) : Int := if n < 0 then first else if below - first ≤ n then below - 1 else first + n
def In2 (n : Int) : Prop := 0 ≤ n ∧ n ≤ 2000



end Go.Proofs.YtfnamfkjbkhgeaaGreatDoor

/-
  A parser's steps by a table.
-/
import Derived.Test.YtpiliicphoacfaaDoorPrsJ
import Derived.Deep.RegionWith
namespace Go.Proofs.YtpiliicphoacfaaDoor

open Go Go.RowKit

def fnV (f : FuncId) : Value := .func (.func f) #[] #[]
def stps : Array Value := #[fnV 66, fnV 67, fnV 68, fnV 69, fnV 70, fnV 71, fnV 72, fnV 73]
def stp0 : Array Value := #[.nilFunc, .nilFunc, .nilFunc, .nilFunc, .nilFunc, .nilFunc, .nilFunc, .nilFunc]
theorem stpS : (Tryd.prog.info? 79).map (·.size) = some 8 := by kernel_rfl
set_option maxRecDepth 100000 in
set_option maxHeartbeats 4000000 in
theorem steps_any (w : World) : Calls Tryd.prog 45 #[] w fun e w' => e = .returned (.agg stps) ∧ Below w.heap.size w w' := by
  have HB : Hid (Blk (w.alloc (.cells stp0 79)) w.heap.size 79 stp0) := Lib.hid (Blk.new w _ _)
  have HL : Hid (Below w.heap.size w (w.alloc (.cells stp0 79))) := Lib.hid ((Below.refl _ w).alloc (Nat.le_refl _) _)
  unfold stp0 at HB HL
  go_enter Tryd.func45, Tryd.ntmps45
  go_upto_region 1 with fail
  generalize w.alloc (.cells #[.nilFunc, .nilFunc, .nilFunc, .nilFunc, .nilFunc, .nilFunc, .nilFunc, .nilFunc] 79) = w1 at *
  go_wp2_with (refine wpList_store_row rfl _ _ _ rfl w.heap.size stps rfl rfl _ _ HB.out stpS rfl (by simp [stps, fnV, Value.oneCell']) ?_)
  (try simp only [Exit.inBlock, Exit.then])
  have hb2 : Blk (w1.setRow w.heap.size stps) w.heap.size 79 stps := setRow_heap w1 _ _ _ _ _ HB.out
  exact bodyPost_ret (results_cell_row rfl _ _ w.heap.size 79 stps (0, 0) _ rfl hb2 Tryd.underlying79 rfl stpS) rfl ⟨rfl, ⟨HL.out.os, HL.out.tape, HL.out.output, by simpa [World.setRow] using HL.out.size, fun k hk => (row_far stps (by omega)).trans (HL.out.block k hk)⟩⟩
end Go.Proofs.YtpiliicphoacfaaDoor

/-
  A parser's steps by a table.
-/
import Derived.Test.YtpiliicphoacfaaPrsJ
import Derived.Deep.RegionWith
namespace Go.Proofs.Ytpiliicphoacfaa

open Go Go.RowKit

def fnV (f : FuncId) : Value := .func (.func f) #[] #[]
def stps : Array Value := #[fnV 35, fnV 36, fnV 37, fnV 38, fnV 39, fnV 40, fnV 41, fnV 42]
def stp0 : Array Value := #[.nilFunc, .nilFunc, .nilFunc, .nilFunc, .nilFunc, .nilFunc, .nilFunc, .nilFunc]
theorem stpS : (Try.prog.info? 62).map (·.size) = some 8 := by kernel_rfl
set_option maxRecDepth 100000 in
set_option maxHeartbeats 4000000 in
theorem steps_any (w : World) : Calls Try.prog 25 #[] w fun e w' => e = .returned (.agg stps) ∧ Below w.heap.size w w' := by
  have HB : Hid (Blk (w.alloc (.cells stp0 62)) w.heap.size 62 stp0) := Lib.hid (Blk.new w _ _)
  have HL : Hid (Below w.heap.size w (w.alloc (.cells stp0 62))) := Lib.hid ((Below.refl _ w).alloc (Nat.le_refl _) _)
  unfold stp0 at HB HL
  go_enter Try.func25, Try.ntmps25
  go_upto_region 1 with fail
  generalize w.alloc (.cells #[.nilFunc, .nilFunc, .nilFunc, .nilFunc, .nilFunc, .nilFunc, .nilFunc, .nilFunc] 62) = w1 at *
  go_wp2_with (refine wpList_store_row rfl _ _ _ rfl w.heap.size stps rfl rfl _ _ HB.out stpS rfl (by simp [stps, fnV, Value.oneCell']) ?_)
  (try simp only [Exit.inBlock, Exit.then])
  have hb2 : Blk (w1.setRow w.heap.size stps) w.heap.size 62 stps := setRow_heap w1 _ _ _ _ _ HB.out
  exact bodyPost_ret (results_cell_row rfl _ _ w.heap.size 62 stps (0, 0) _ rfl hb2 Try.underlying62 rfl stpS) rfl ⟨rfl, ⟨HL.out.os, HL.out.tape, HL.out.output, by simpa [World.setRow] using HL.out.size, fun k hk => (row_far stps (by omega)).trans (HL.out.block k hk)⟩⟩
end Go.Proofs.Ytpiliicphoacfaa

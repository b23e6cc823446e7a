/-
  The cursor's report parted at its semicolons, into eleven at most.
-/
import Derived.Test.YtfnamfkjbkhgeaaGreatDoorStaP
import Derived.Test.YtfnamfkjbkhgeaaGreatDoorShelfS
import Derived.Lib.SplitLaws
namespace Go.Proofs.YtfnamfkjbkhgeaaGreatDoor
open Go Go.RowKit

def semB : ByteArray := ⟨#[59]⟩
theorem info_str9 : (Tryz.prog.info? 9).map (fun i => (i.zero, i.size, i.bytes)) = some (some (.string ByteArray.empty), 1, 16) := by kernel_rfl
/-- The pieces. -/
def flsP (s : ByteArray) : List ByteArray := Lib.splitB semB 0 (min 11 (s.size + 1) - 1) s
set_option maxRecDepth 100000 in
set_option maxHeartbeats 2000000 in
theorem splitN_any (s : ByteArray) (hs : s.size ≤ 100000) (w : World) :
    Calls Tryz.prog 34 #[.string s, .string ⟨#[59]⟩, .int .i64 11] w fun e w' =>
      e = .returned (.slice (some ⟨w.heap.size, 0, none⟩) (flsP s).length (min 11 (s.size + 1))) ∧ w' = w.alloc (.cells (Lib.cellsOf (flsP s) (min 11 (s.size + 1))) 9) := by
  have c := Any.strings_genSplit_core Tryz.lays221 info_str9 s semB 0 11 (min 11 (s.size + 1)) w (by omega) (by decide) (by decide)
    (fun x c _ => (Any.strings_Index_one { Tryz.lays221 with } x 59 _).mono (fun e w' h => ⟨by rw [h.1]; show _ = Ending.returned (Value.int .i64 (Lib.index x.data.toList [59])); rw [Lib.index_one], h.2⟩))
    ((Any.strings_Count_one { Tryz.lays221 with } s 59 w).mono (fun e w' h => ⟨by rw [h.1]; show _ = Ending.returned (Value.int .i64 ((Lib.count s.data.toList [59] : Nat) : Int)); rw [Lib.count_one]; rfl, h.2⟩))
    (by decide) (by decide) (by rw [if_neg (by decide)]; omega)
  have HC := Lib.hid c
  clear c
  go_enter Tryz.func34, Tryz.ntmps34
  go_wp2_with (go_at_call 79; refine HC.out.mono ?_; rintro e w1 ⟨rfl, hw⟩; rw [hw])
  go_ret
  exact ⟨rfl, rfl⟩
end Go.Proofs.YtfnamfkjbkhgeaaGreatDoor

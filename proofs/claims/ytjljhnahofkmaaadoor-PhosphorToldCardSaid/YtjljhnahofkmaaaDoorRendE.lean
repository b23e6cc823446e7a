/-
  The walk of the reference's change of a rendition, number by number.
-/
import Derived.Test.YtjljhnahofkmaaaDoorRendC
import Derived.WalkSmall
namespace Go.Proofs.YtjljhnahofkmaaaDoor

open Go.RowKit

theorem cells_mod {x : Int} (h0 : 0 ≤ x) (h1 : x ≤ 255) : cellsF (x % 32) = #[.bool (fb x 0), .bool (fb x 1), .bool (fb x 2), .bool (fb x 3), .bool (fb x 4)] := by
  unfold cellsF
  rw [fb_mod h0 h1 0 (by omega), fb_mod h0 h1 1 (by omega), fb_mod h0 h1 2 (by omega), fb_mod h0 h1 3 (by omega), fb_mod h0 h1 4 (by omega)]

theorem step_on {w : World} {g : Nat} {t : TypeId} {y : Int} (h : Blk w g t (cellsF y)) (h0 : 0 ≤ y) (h1 : y < 32) (k : Nat) (hk : k < 5) : Blk (w.setCell ⟨g, k, none⟩ (.bool true)) g t (cellsF (ap1 y (pOn k))) := by
  rw [ap1_on y k hk, ← cellsF_or h0 h1 k hk]; exact h.set_ k _
theorem step_off {w : World} {g : Nat} {t : TypeId} {y : Int} (h : Blk w g t (cellsF y)) (h0 : 0 ≤ y) (h1 : y < 32) (k : Nat) (hk : k < 5) : Blk (w.setCell ⟨g, k, none⟩ (.bool false)) g t (cellsF (ap1 y (pOff k))) := by
  rw [ap1_off y k hk, ← cellsF_andNot h0 h1 k hk]; exact h.set_ k _

end Go.Proofs.YtjljhnahofkmaaaDoor

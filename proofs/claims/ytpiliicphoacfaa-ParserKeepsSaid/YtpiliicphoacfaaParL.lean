/-
  The walk of Format.
-/
import Derived.Test.YtpiliicphoacfaaParK
namespace Go.Proofs.Ytpiliicphoacfaa

open Go.RowKit Go.Sort


/-- The texts of the numbers so far. -/
def txts (ms : List Int) : List ByteArray := ms.map fun n => bytesOf (digs n)
theorem txts_snoc (ms : List Int) (k : Nat) (h : k < ms.length) : txts (ms.take (k + 1)) = txts (ms.take k) ++ [bytesOf (digs ms[k])] := by
  unfold txts; rw [take_snoc ms k h, List.map_append]; rfl
theorem txts_data (ms : List Int) : (txts ms).map (·.data.toList) = ms.map digs := by unfold txts bytesOf; simp


end Go.Proofs.Ytpiliicphoacfaa

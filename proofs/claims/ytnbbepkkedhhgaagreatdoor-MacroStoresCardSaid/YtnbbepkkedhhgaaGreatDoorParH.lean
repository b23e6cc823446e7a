/-
  The walk of the reference that reads a text of numbers piece by piece.
-/
import Derived.Test.YtnbbepkkedhhgaaGreatDoorParG
namespace Go.Proofs.YtnbbepkkedhhgaaGreatDoor

open Go.RowKit

theorem data_len (s : ByteArray) : s.data.toList.length = s.size := by show s.data.toList.length = s.data.size; simp
theorem data_at (s : ByteArray) (k : Nat) (hk : k < s.size) : s.data.toList[k]'(by rw [data_len]; exact hk) = s[k] := by simp; rfl

end Go.Proofs.YtnbbepkkedhhgaaGreatDoor

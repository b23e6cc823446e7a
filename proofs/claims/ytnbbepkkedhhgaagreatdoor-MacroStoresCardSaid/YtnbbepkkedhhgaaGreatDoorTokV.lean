/-
  Tokens, the document's own answers: an escape and a byte; what kind of function it is.
-/
import Derived.Test.YtnbbepkkedhhgaaGreatDoorTokU
namespace Go.Proofs.YtnbbepkkedhhgaaGreatDoor

open Go Go.RowKit


theorem conv_new1 (W : World) (n : Nat) : (convert 59 9 (.slice (some ⟨W.heap.size, 0, none⟩) 1 1)).run Tryz.prog (W.alloc (.cells #[.int .u8 (n : Int)] 5)) = .ok (.string (bstr [n])) (W.alloc (.cells #[.int .u8 (n : Int)] 5)) := by
  have h : RByt (W.alloc (.cells #[.int .u8 (n : Int)] 5)) (some ⟨W.heap.size, 0, none⟩) [n] := Reads.of_own (World.ownsRow_lit (e := 5) (size := 1) W #[.int .u8 (n : Int)] 1 (Nat.le_refl _) (by unfold maxLen; omega) rfl)
  exact conv_by h 1
theorem bstr_append (a b : List Nat) : bstr (a ++ b) = bstr a ++ bstr b := by
  apply ByteArray.ext
  apply Array.ext'
  rw [bstr_list, List.map_append]
  show _ = (bstr a ++ bstr b).data.toList
  rw [ByteArray.data_append, Array.toList_append, bstr_list, bstr_list]
theorem bstr_nat (s : ByteArray) : bstr (natL s.data.toList) = s := by
  apply ByteArray.ext
  apply Array.ext'
  rw [bstr_list]
  unfold natL
  rw [List.map_map]
  have : (UInt8.ofNat ∘ UInt8.toNat) = id := by funext x; simp
  rw [this, List.map_id]
theorem id_parts (c m : Nat) (s : ByteArray) : bstr (signsL c m [] s) = (if m = 0 then (ByteArray.mk #[]) else bstr [m]) ++ s ++ bstr [c] := by
  unfold signsL
  rw [fmt_none]
  simp only [bstr_append, bstr_nat]
  have e0 : bstr (natL []) = ByteArray.mk #[] := rfl
  rw [e0]
  by_cases h : m = 0
  · rw [if_pos h, if_pos h]
    apply ByteArray.ext; apply Array.ext'
    simp [ByteArray.data_append, bstr]
    rfl
  · rw [if_neg h, if_neg h]
    apply ByteArray.ext; apply Array.ext'
    simp [ByteArray.data_append]


end Go.Proofs.YtnbbepkkedhhgaaGreatDoor

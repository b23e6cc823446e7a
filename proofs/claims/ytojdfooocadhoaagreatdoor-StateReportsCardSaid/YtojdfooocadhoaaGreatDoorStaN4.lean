/-
  All of it, brought back by the document.
-/
import Derived.Test.YtojdfooocadhoaaGreatDoorStaN2
import Derived.Test.YtojdfooocadhoaaGreatDoorStaN3
namespace Go.Proofs.YtojdfooocadhoaaGreatDoor
open Go Go.RowKit
set_option maxRecDepth 100000 in
set_option maxHeartbeats 8000000 in
theorem refRestore_any {x : Co} {H W it il ib ir : Int} (h : FrOk x.f H W it il ib ir) (hr0 : 0 ≤ x.K.rd) (hr1 : x.K.rd ≤ 255) (s : ByteArray) (hs : s.size ≤ 140737488355328) (w : World) :
    Calls Tryz.prog 18 #[coV .i64 x, .string s] w fun e w' => e = .returned (.tuple #[coV .i64 (if okL (clnP x H W it il ib ir) (parseV s.data.toList).1 (parseV s.data.toList).2 = true then thenL (clnP x H W it il ib ir) (parseV s.data.toList).1 else clnP x H W it il ib ir), .bool (okL (clnP x H W it il ib ir) (parseV s.data.toList).1 (parseV s.data.toList).2)]) ∧ Below w.heap.size w w' := by
  by_cases hbad : (parseV s.data.toList).2 ≠ 0 ∨ (parseV s.data.toList).1.length ≠ 12
  · exact refRestore_bad h hr0 hr1 s hs hbad w
  · have her : (parseV s.data.toList).2 = 0 := by
      by_cases g : (parseV s.data.toList).2 = 0
      · exact g
      · exact absurd (.inl g) hbad
    have hlen : (parseV s.data.toList).1.length = 12 := by
      by_cases g : (parseV s.data.toList).1.length = 12
      · exact g
      · exact absurd (.inr g) hbad
    rcases Bool.eq_false_or_eq_true (okL (clnP x H W it il ib ir) (parseV s.data.toList).1 (parseV s.data.toList).2) with hg | hg
    · exact refRestore_ok h hr0 hr1 s hs her hlen hg w
    · exact refRestore_no h hr0 hr1 s hs her hlen hg w
end Go.Proofs.YtojdfooocadhoaaGreatDoor

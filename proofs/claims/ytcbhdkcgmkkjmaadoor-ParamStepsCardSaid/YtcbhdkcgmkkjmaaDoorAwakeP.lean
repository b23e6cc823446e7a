/-
  The walk of the fixed fact that each statement on numbers asks first.
-/
import Derived.Test.YtcbhdkcgmkkjmaaDoorParE
import Derived.Test.YtcbhdkcgmkkjmaaDoorParL
namespace Go.Proofs.YtcbhdkcgmkkjmaaDoor

open Go.RowKit

theorem bcellP {W w1 : World} (hb : Below W.heap.size W w1) : (∀ b o, b < W.heap.size → w1.cell? ⟨b, o, none⟩ = W.cell? ⟨b, o, none⟩) ∧ (∀ b o, b < W.heap.size → w1.frozen? ⟨b, o, none⟩ = W.frozen? ⟨b, o, none⟩) :=
  ⟨fun b o h => hb.cell (p := ⟨b, o, none⟩) h, fun b o h => hb.frozen (p := ⟨b, o, none⟩) h⟩
set_option maxHeartbeats 2000000 in
theorem awakeP_any (w : World) (ht : Ten w) :
    Calls Tryd.prog 4 #[] w fun e w' => e = .returned (.bool true) ∧ Below w.heap.size w w' := by
  have hok : OkB (⟨#[49, 59, 59, 57, 57, 57, 57, 57]⟩ : ByteArray).data.toList := by unfold OkB; decide
  have HP := Lib.hid (parse_yes ⟨#[49, 59, 59, 57, 57, 57, 57, 57]⟩ (by unfold maxLen; decide) hok)
  rw [show numsOf (⟨#[49, 59, 59, 57, 57, 57, 57, 57]⟩ : ByteArray).data.toList = [1, 0, 65535] from by decide +kernel] at HP
  clear hok
  have HF := Lib.hid (fun A c W h1 h2 => format_any A c [1, 0, 70000] (by unfold maxLen; decide) (show 3 ≤ c from h1) W h2)
  rw [show bytesOf (fmtL [1, 0, 70000]) = ⟨#[49, 59, 48, 59, 54, 53, 53, 51, 53]⟩ from by decide +kernel] at HF
  have HS := Lib.hid (fun A B c d W => sameInts_any A B c d [1, 0, 65535] [1, 0, 65535] (by unfold maxLen; decide) (by unfold maxLen; decide) W)
  go_enter Tryd.func4, Tryd.ntmps4
  go_wp2_with fail
  refine (HP.out w).mono ?_
  rintro e w1 ⟨v, rfl, hown, hb1⟩
  obtain ⟨Av, cv, rfl⟩ := OInts.form hown
  have hr1 := OInts.reads hown
  have HR1 := Lib.hid hr1
  clear hown hr1
  go_wp2_with fail
  have hb2 : Below w1.heap.size w1 (w1.alloc (.cells #[.int .i64 1, .int .i64 0, .int .i64 65535] 3)) := (Below.refl _ _).alloc (Nat.le_refl _) _
  refine (HS.out Av (some ⟨w1.heap.size, 0, none⟩) cv 3 _ (HR1.out.next hb2) (rints_new w1 3 [1, 0, 65535] #[.int .i64 1, .int .i64 0, .int .i64 65535] rfl w1.heap.size rfl)).mono ?_
  rintro e w2 ⟨rfl, hb3⟩
  have hb13 : Below w.heap.size w w2 := (hb1.trans (hb2.mono hb1.size)).trans (hb3.mono (Nat.le_trans hb1.size hb2.size))
  clear hb2 hb3
  go_wp2_with fail
  have hb4 : Below w2.heap.size w2 (w2.alloc (.cells #[.int .i64 1, .int .i64 0, .int .i64 70000] 3)) := (Below.refl _ _).alloc (Nat.le_refl _) _
  refine (HF.out (some ⟨w2.heap.size, 0, none⟩) 3 _ (by omega) ((ht.next hb13).next hb4) (rints_new w2 3 [1, 0, 70000] #[.int .i64 1, .int .i64 0, .int .i64 70000] rfl w2.heap.size rfl)).mono ?_
  rintro e w3 ⟨rfl, hb5⟩
  go_wp2_with fail
  go_ret
  exact ⟨by rfl, (hb13.trans (hb4.mono hb13.size)).trans (hb5.mono (Nat.le_trans hb13.size hb4.size))⟩
end Go.Proofs.YtcbhdkcgmkkjmaaDoor

/-
  The walk that reads a rendition's letters.
-/
import Derived.Test.YtdjbfnhgendacaaDoorKit2
import Derived.Test.YtdjbfnhgendacaaDoorLet
namespace Go.Proofs.YtdjbfnhgendacaaDoor
open Go.RowKit

set_option maxHeartbeats 800000 in
theorem fromLetters_any (s : ByteArray) (hs : s.size ≤ maxLen) (w : World) (ht : Tab w) :
    Calls Tryd.prog 26 #[.string s] w fun e w' =>
      e = .returned (.tuple #[.int .u8 (fromP s).1, .int .i64 (fromP s).2]) ∧ Below w.heap.size w w' := by
  unfold maxLen at hs
  go_enter Tryd.func26, Tryd.ntmps26
  go_wp2_with (with_reducible refine wpList_load_tab ht rfl _ rfl rfl ?_)
  go_loopw [4, 5, 9] (fun r p i wr => ∃ k : Nat, k ≤ 5 ∧ i = .int .i64 k ∧ p = .int .i64 (fromAt s k).1 ∧ r = .int .u8 (fromAt s k).2 ∧ Below w.heap.size w wr) (fun _ _ i _ => 5 - (intOf i).toNat)
  case atStart => exact ⟨0, by omega, rfl, rfl, rfl, Below.refl _ _⟩
  case round =>
    obtain ⟨k, hk, rfl, rfl, rfl, hb⟩ := hrel
    have hf := fromAt_range s k hk
    by_cases hlt : k < 5
    · have hi := idx_tab k hlt
      have HS := Lib.hid (fromAt_step s k)
      obtain ⟨g1, g2, g3, g4⟩ := hf
      generalize (fromAt s k).1 = p at *
      generalize (fromAt s k).2 = r at *
      by_cases hp : p < s.size
      · by_cases he : (s[p].toNat : Int) = pLet k
        · have e1 : ((s[p].toNat : Int) == pLet k) = true := by simpa using he
          have He := Lib.hid he
          clear he
          go_wp2_with fail
          go_quiet (fail)
          go_wp2
          go_roundw
          case rel => exact ⟨k + 1, by omega, by go_num, by rw [(HS.out.1 hp He.out).1]; go_num, by rw [(HS.out.1 hp He.out).2], below_drewN (hb.alloc hb.size _) _⟩
          case measure => simp [intOf]; omega
        · have e1 : ((s[p].toNat : Int) == pLet k) = false := by simpa using he
          have He := Lib.hid he
          clear he
          go_wp2_with fail
          go_quiet (fail)
          go_wp2
          go_roundw
          case rel => exact ⟨k + 1, by omega, by go_num, by rw [(HS.out.2 (.inr ⟨hp, He.out⟩)).1], by rw [(HS.out.2 (.inr ⟨hp, He.out⟩)).2], below_drewN (hb.alloc hb.size _) _⟩
          case measure => simp [intOf]; omega
      · have hd : decide ((p : Int) < s.size) = false := by simp; omega
        go_wp2_with fail
        go_quiet (fail)
        go_wp2
        go_roundw
        case rel => exact ⟨k + 1, by omega, by go_num, by rw [(HS.out.2 (.inl hp)).1], by rw [(HS.out.2 (.inl hp)).2], below_drewN (hb.alloc hb.size _) _⟩
        case measure => simp [intOf]; omega
    · obtain rfl : k = 5 := by omega
      obtain ⟨g1, g2, g3, g4⟩ := hf
      clear hk hlt
      by_cases hp : (fromAt s 5).1 < s.size
      · have HF := Lib.hid (fromP_no hp)
        generalize (fromAt s 5).1 = p at *
        generalize (fromAt s 5).2 = r at *
        go_wp2
        go_ret2
        exact ⟨by rw [HF.out]; rfl, hb⟩
      · have HF := Lib.hid (fromP_yes hp)
        generalize (fromAt s 5).1 = p at *
        generalize (fromAt s 5).2 = r at *
        go_wp2
        go_ret2
        exact ⟨by rw [HF.out]; rfl, hb⟩
end Go.Proofs.YtdjbfnhgendacaaDoor

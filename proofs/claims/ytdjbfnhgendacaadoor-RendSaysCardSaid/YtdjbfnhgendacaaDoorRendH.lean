/-
  The walks of a rendition's letters.
-/
import Derived.Test.YtdjbfnhgendacaaDoorKit2
import Derived.Test.YtdjbfnhgendacaaDoorLet
import Derived.Test.YtdjbfnhgendacaaDoorRendC
namespace Go.Proofs.YtdjbfnhgendacaaDoor
open Go.RowKit

theorem conv_own {w : World} {base : Nat} {v : Value} {ns : List Int} (h : w.ownsRow base 5 1 v ns.length (ns.map (Value.int .u8))) :
    (convert 53 9 v).run Tryd.prog w = .ok (.string (strOfNums ns)) w := by
  rcases h.2 with ⟨rfl, hn⟩ | ⟨g, cap, cur, rfl, hb, hh, hc, hm, hs, ht⟩
  · obtain rfl : ns = [] := List.eq_nil_of_length_eq_zero hn
    exact run_convert_bytes_nil w 53 5 Tryd.underlying53 Tryd.underlying5 0 0 9 Tryd.underlying9
  · refine run_convert_bytes_arg w 53 5 Tryd.underlying53 Tryd.underlying5 g 0 _ cap ns rfl (fun i hi => ?_) 9 Tryd.underlying9
    have := h.cellAt i (by omega)
    rw [Nat.zero_add, this]
    simp [List.getD, List.getElem?_eq_getElem hi]

set_option maxHeartbeats 800000 in
theorem letters_any (x : Int) (h0 : 0 ≤ x) (h1 : x ≤ 255) (w : World) (ht : Tab w) :
    Calls Tryd.prog 25 #[.int .u8 x] w fun e w' => e = .returned (.string (letS x)) ∧ Below w.heap.size w w' := by
  go_enter Tryd.func25, Tryd.ntmps25
  go_wp2_with (with_reducible refine wpList_load_tab ht rfl _ rfl rfl ?_)
  go_loopw [3, 7] (fun s i wr => ∃ k : Nat, k ≤ 5 ∧ i = .int .i64 k ∧ wr.ownsRow w.heap.size 5 1 s (letN x k).length ((letN x k).map (Value.int .u8)) ∧ Below w.heap.size w wr) (fun _ i _ => 5 - (intOf i).toNat)
  case atStart => exact ⟨0, by omega, rfl, World.ownsRow_nil _ _ _ _, Below.refl _ _⟩
  case round =>
    obtain ⟨k, hk, rfl, hown, hb⟩ := hrel
    by_cases hlt : k < 5
    · have hi := idx_tab k hlt
      have hbit := hasBit_fb h0 h1 k hlt
      have hlen := letN_len x k
      cases hf : fb x k
      · have Hf := Lib.hid hf
        rw [hf] at hbit
        clear hf hlen
        go_wp2
        go_roundw
        case rel => exact ⟨k + 1, by omega, by go_num, by rw [letN, Hf.out]; simpa using World.ownsRow.alloc hown _, hb.alloc hb.size _⟩
        case measure => simp [intOf]; omega
      · have Hf := Lib.hid hf
        rw [hf] at hbit
        clear hf
        go_wp2_with (at_builtin; refine wpList_push rfl _ _ _ rfl w.heap.size 5 (.int .u8 0) 1 Tryd.underlying53 info_byte rfl _ _ _ rfl (World.ownsRow.alloc hown _) (.int .u8 (pLet k)) rfl _ _ _ (by simp) rfl (by unfold maxLen; omega) (by omega) (Nat.le_trans hb.size (by simp)) ?_; intro v' w' hown' hg' hb')
        go_roundw
        case rel => exact ⟨k + 1, by omega, by go_num, by rw [letN, Hf.out]; simpa using hown', (hb.alloc hb.size _).trans hb'⟩
        case measure => simp [intOf]; omega
    · obtain rfl : k = 5 := by omega
      have hconv := conv_own hown
      go_wp2
      go_ret
      exact ⟨rfl, hb⟩

set_option maxHeartbeats 1000000 in
theorem refLetters_any (x : Int) (h0 : 0 ≤ x) (h1 : x ≤ 255) (w : World) :
    Calls Tryd.prog 27 #[.int .u8 x] w fun e w' => e = .returned (.string (letS x)) ∧ Below w.heap.size w w' := by
  rw [letS_of x]
  have HO := Lib.hid (of_any x h0 h1)
  unfold parts at HO
  generalize fb x 0 = a at *; generalize fb x 1 = b at *; generalize fb x 2 = c at *; generalize fb x 3 = d at *; generalize fb x 4 = e' at *
  go_enter Tryd.func27, Tryd.ntmps27
  go_upto_if 8 with (go_at_call 22; refine (HO.out _).mono ?_; rintro e w1 ⟨rfl, hb1⟩)
  go_cut [4] (fun s wx => ∃ t, s = .string t ∧ Hid (t = addL ⟨#[]⟩ a 98 ∧ t.size ≤ 1) ∧ wx = w1.alloc (.cells #[.bool a, .bool b, .bool c, .bool d, .bool e'] 31))
  case first => cases a <;> (go_wp2; go_meet; exact ⟨_, rfl, ⟨rfl, by decide⟩, rfl⟩)
  case rest =>
    obtain ⟨t1, rfl, H1, rfl⟩ := hcut
    go_upto_if 12 with fail
    go_cut [4] (fun s wx => ∃ t, s = .string t ∧ Hid (t = addL t1 b 117 ∧ t.size ≤ 2) ∧ wx = w1.alloc (.cells #[.bool a, .bool b, .bool c, .bool d, .bool e'] 31))
    case first =>
      have hz : t1.size ≤ 1 := H1.out.2
      have HZ := Lib.hid (addL_size hz b 117)
      cases b <;> (go_wp2; go_meet; exact ⟨_, rfl, ⟨rfl, HZ.out⟩, rfl⟩)
    case rest =>
      obtain ⟨t2, rfl, H2, rfl⟩ := hcut
      go_upto_if 16 with fail
      go_cut [4] (fun s wx => ∃ t, s = .string t ∧ Hid (t = addL t2 c 107 ∧ t.size ≤ 3) ∧ wx = w1.alloc (.cells #[.bool a, .bool b, .bool c, .bool d, .bool e'] 31))
      case first =>
        have hz : t2.size ≤ 2 := H2.out.2
        have HZ := Lib.hid (addL_size hz c 107)
        cases c <;> (go_wp2; go_meet; exact ⟨_, rfl, ⟨rfl, HZ.out⟩, rfl⟩)
      case rest =>
        obtain ⟨t3, rfl, H3, rfl⟩ := hcut
        go_upto_if 20 with fail
        go_cut [4] (fun s wx => ∃ t, s = .string t ∧ Hid (t = addL t3 d 114 ∧ t.size ≤ 4) ∧ wx = w1.alloc (.cells #[.bool a, .bool b, .bool c, .bool d, .bool e'] 31))
        case first =>
          have hz : t3.size ≤ 3 := H3.out.2
          have HZ := Lib.hid (addL_size hz d 114)
          cases d <;> (go_wp2; go_meet; exact ⟨_, rfl, ⟨rfl, HZ.out⟩, rfl⟩)
        case rest =>
          obtain ⟨t4, rfl, H4, rfl⟩ := hcut
          go_upto_if 24 with fail
          go_cut [4] (fun s wx => ∃ t, s = .string t ∧ Hid (t = addL t4 e' 104 ∧ t.size ≤ 5) ∧ wx = w1.alloc (.cells #[.bool a, .bool b, .bool c, .bool d, .bool e'] 31))
          case first =>
            have hz : t4.size ≤ 4 := H4.out.2
            have HZ := Lib.hid (addL_size hz e' 104)
            cases e' <;> (go_wp2; go_meet; exact ⟨_, rfl, ⟨rfl, HZ.out⟩, rfl⟩)
          case rest =>
            obtain ⟨t5, rfl, H5, rfl⟩ := hcut
            go_wp2
            go_ret
            exact ⟨by rw [H5.out.1, H4.out.1, H3.out.1, H2.out.1, H1.out.1]; rfl, hb1.alloc hb1.size _⟩
end Go.Proofs.YtdjbfnhgendacaaDoor

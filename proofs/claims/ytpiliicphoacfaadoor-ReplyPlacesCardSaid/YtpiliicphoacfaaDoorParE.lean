/-
  The walk that reads a text of numbers.
-/
import Derived.Test.YtpiliicphoacfaaDoorParD
namespace Go.Proofs.YtpiliicphoacfaaDoor

open Go.RowKit

set_option maxHeartbeats 1000000 in
theorem parse_yes (s : ByteArray) (hs : s.size ≤ maxLen) (hok : OkB s.data.toList) (w : World) :
    Calls Tryd.prog 76 #[.string s] w fun e w' => ∃ v, e = .returned (.tuple #[v, .int .i64 0]) ∧ OInts w' w.heap.size v (numsOf s.data.toList) ∧ Below w.heap.size w w' := by
  unfold maxLen at hs
  have HOk := Lib.hid hok
  clear hok
  go_enter Tryd.func76, Tryd.ntmps76
  go_wp2_with fail
  go_loopw [8] (fun i wr => ∃ k : Nat, k ≤ s.size ∧ i = .int .i64 k ∧ Acc wr w.heap.size (fieldsOf (s.data.toList.take k)) ∧ Below w.heap.size w wr) (fun i _ => s.size - (intOf i).toNat)
  case atStart => exact ⟨0, by omega, rfl, Blk.new _ _ _, (Below.refl _ _).alloc (Nat.le_refl _) _⟩
  case round =>
    obtain ⟨k, hk, rfl, hacc, hb⟩ := hrel
    by_cases hlt : k < s.size
    · have hin : InF (fieldsOf (s.data.toList.take k)) := fieldsOf_range (fun b hb => HOk.out b (List.mem_of_mem_take hb))
      have hbk : okb s[k] = true := HOk.out _ (by show s.data[k] ∈ _; simp)
      have HS : Hid (fieldsOf (s.data.toList.take (k + 1)) = stepF (fieldsOf (s.data.toList.take k)) s[k]) := Lib.hid (by
        rw [take_snoc _ k (by simpa using hlt), fieldsOf_snoc]; rfl)
      have HC := Lib.hid (byte_yes w.heap.size _ _ hbk hin wr hacc)
      clear hin hbk hacc
      generalize fieldsOf (s.data.toList.take k) = fs at *
      generalize stepF fs s[k] = gs at *
      go_wp2_with (go_at_call 92; refine HC.out.mono ?_; rintro e w1 ⟨rfl, h1, h2⟩)
      go_roundw
      case rel => exact ⟨k + 1, by omega, by go_num, by rw [HS.out]; exact h1, hb.grown h2 hb.size (fun k hk => Nat.le_of_eq (Option.some.inj hk))⟩
      case measure => simp [intOf]; omega
    · obtain rfl : k = s.size := by omega
      have HL := Lib.hid (list_any _ _ _ hacc)
      clear hacc
      have HN : Hid ((fieldsOf (s.data.toList.take s.size)).take 30 = numsOf s.data.toList) := Lib.hid (by rw [show s.data.toList.take s.size = s.data.toList from List.take_of_length_le (by show s.data.toList.length ≤ s.data.size; simp)]; rfl)
      go_wp2_with (go_at_call 97; refine HL.out.mono ?_; rintro e w1 ⟨v, rfl, h1, h2⟩)
      go_ret2
      rw [HN.out] at h1
      exact ⟨_, rfl, own_base h1 hb.size, hb.trans (h2.mono hb.size)⟩

theorem first_bad (l : List UInt8) (h : ¬ OkB l) : ∃ k, ∃ hk : k < l.length, okb l[k] = false ∧ OkB (l.take k) := by
  induction l with
  | nil => exact absurd (fun b hb => by simp at hb) h
  | cons b l ih =>
    by_cases hb : okb b = true
    · have h' : ¬ OkB l := fun hl => h (fun x hx => by
        rcases List.mem_cons.1 hx with rfl | hx
        · exact hb
        · exact hl x hx)
      obtain ⟨k, hk, h1, h2⟩ := ih h'
      exact ⟨k + 1, by simp; omega, by simpa using h1, fun x hx => by
        rw [List.take_succ_cons] at hx
        rcases List.mem_cons.1 hx with rfl | hx
        · exact hb
        · exact h2 x hx⟩
    · exact ⟨0, by simp, by simpa using hb, fun x hx => by simp at hx⟩

set_option maxHeartbeats 1000000 in
theorem parse_no (s : ByteArray) (hs : s.size ≤ maxLen) (hno : ¬ OkB s.data.toList) (w : World) :
    Calls Tryd.prog 76 #[.string s] w fun e w' => e = .returned (.tuple #[.slice none 0 0, .int .i64 3]) ∧ Below w.heap.size w w' := by
  unfold maxLen at hs
  obtain ⟨K, hK', hbad, hok⟩ := first_bad _ hno
  have hK : K < s.size := by simpa using hK'
  have hbad' : okb s[K] = false := hbad
  have HOk := Lib.hid hok
  have HBad := Lib.hid hbad'
  clear hok hno hbad hbad' hK'
  go_enter Tryd.func76, Tryd.ntmps76
  go_wp2_with fail
  go_loopw [8] (fun i wr => ∃ k : Nat, k ≤ K ∧ i = .int .i64 k ∧ Acc wr w.heap.size (fieldsOf (s.data.toList.take k)) ∧ Below w.heap.size w wr) (fun i _ => s.size - (intOf i).toNat)
  case atStart => exact ⟨0, by omega, rfl, Blk.new _ _ _, (Below.refl _ _).alloc (Nat.le_refl _) _⟩
  case round =>
    obtain ⟨k, hk, rfl, hacc, hb⟩ := hrel
    by_cases hlt : k < K
    · have hks : k < s.size := by omega
      have hpre : OkB (s.data.toList.take k) := fun b hb => HOk.out b (by
        have e : s.data.toList.take k = (s.data.toList.take K).take k := by rw [List.take_take, Nat.min_eq_left (by omega)]
        rw [e] at hb; exact List.mem_of_mem_take hb)
      have hin : InF (fieldsOf (s.data.toList.take k)) := fieldsOf_range hpre
      have hbk : okb s[k] = true := HOk.out _ (by
        have hkl : k < (s.data.toList.take K).length := by simp; omega
        have e : (s.data.toList.take K)[k] = s[k] := by simp; rfl
        rw [← e]; exact List.getElem_mem hkl)
      have HS : Hid (fieldsOf (s.data.toList.take (k + 1)) = stepF (fieldsOf (s.data.toList.take k)) s[k]) := Lib.hid (by
        rw [take_snoc _ k (by simpa using hks), fieldsOf_snoc]; rfl)
      have HC := Lib.hid (byte_yes w.heap.size _ _ hbk hin wr hacc)
      clear hin hbk hacc hpre
      generalize fieldsOf (s.data.toList.take k) = fs at *
      generalize stepF fs s[k] = gs at *
      go_wp2_with (go_at_call 92; refine HC.out.mono ?_; rintro e w1 ⟨rfl, h1, h2⟩)
      go_roundw
      case rel => exact ⟨k + 1, by omega, by go_num, by rw [HS.out]; exact h1, hb.grown h2 hb.size (fun k hk => Nat.le_of_eq (Option.some.inj hk))⟩
      case measure => simp [intOf]; omega
    · obtain rfl : k = K := by omega
      have HC := Lib.hid (byte_no w.heap.size _ HBad.out wr)
      clear hacc
      go_wp2_with (go_at_call 92; refine HC.out.mono ?_; rintro e w1 ⟨rfl, rfl⟩)
      go_ret2
      exact ⟨rfl, hb⟩
end Go.Proofs.YtpiliicphoacfaaDoor

/-
  The walks that write a report of stops: the program's and the reference's.
-/
import Derived.Test.YtnfdgioapbkonaaDoorTabQ
namespace Go.Proofs.YtnfdgioapbkonaaDoor
open Go Go.RowKit Go.Sort

def txts (L : List Int) : List ByteArray := L.map fun x => bytesOf (dig x)
theorem txts_snoc (L : List Int) (k : Nat) (h : k < L.length) : txts (L.take (k + 1)) = txts (L.take k) ++ [bytesOf (dig L[k])] := by
  unfold txts; rw [List.take_succ_eq_append_getElem h, List.map_append]; rfl
theorem txts_data (L : List Int) : (txts L).map (·.data.toList) = L.map dig := by unfold txts bytesOf; simp

set_option maxHeartbeats 4000000 in
theorem report_any (B n : Nat) (h : Nat → Bool) (w : World) (s : Stp w B n h) (ht : Ten w) :
    Calls Tryd.prog 7 #[.pointer (some ⟨B, 0, none⟩)] w fun e w' => e = .returned (.string (repB (lstP h n))) ∧ Below w.heap.size w w' := by
  have HL := Lib.hid (list_any B n h w s)
  obtain ⟨_, hn⟩ := s.cols
  have HM := Lib.hid (lstP_mem h n)
  have hlen := lstP_len h n
  have HF : Hid (repB (lstP h n) = bytesOf (Lib.join ((txts (lstP h n)).map (·.data.toList)) [47])) := Lib.hid (by rw [txts_data]; rfl)
  clear s
  generalize lstP h n = L at *
  have hL : L.length ≤ 500 := by omega
  have HT : Hid (∀ x ∈ txts L, x.data.toList.length ≤ 5) := Lib.hid (fun x hx => by
    obtain ⟨y, hy, rfl⟩ := List.mem_map.1 hx
    exact dig_len y (by have := HM.out y hy; omega))
  generalize repB L = out at *
  have HTen := Lib.hid ht
  clear ht
  go_enter Tryd.func7, Tryd.ntmps7
  go_wp2_with fail
  refine HL.out.mono ?_
  rintro e w0 ⟨v0, rfl, hown0, hb0⟩
  obtain ⟨A, c, rfl, _, hr⟩ := own_ints hown0
  have HR := Lib.hid hr
  have HB0 := Lib.hid hb0
  clear hown0 hr hb0 HL
  go_wp2_with fail
  go_loopw [3, 9] (fun t i wr => ∃ (k : Nat) (v : Value), k ≤ L.length ∧ i = .int .i64 k ∧ t = v ∧ OStr wr w0.heap.size v (txts (L.take k)) ∧ Below w0.heap.size w0 wr) (fun _ i _ => L.length - (intOf i).toNat)
  case atStart => exact ⟨0, _, by omega, rfl, rfl, World.ownsRow_nil _ _ _ _, Below.refl _ _⟩
  case round =>
    obtain ⟨k, v, hk, rfl, rfl, hown, hb⟩ := hrel
    by_cases hlt : k < L.length
    · obtain ⟨ad, rfl, hbd, hcell⟩ := (HR.out.next hb).at_ hlt
      have HS := Lib.hid (txts_snoc L k hlt)
      have htl : (txts (L.take k)).length ≤ 500 := by unfold txts; simp; omega
      obtain ⟨Av, cv, rfl, _⟩ := hown.form
      have HOwn := Lib.hid hown
      have HB := Lib.hid hb
      have hsz := hb.size
      obtain ⟨hx0, hx1⟩ := HM.out L[k] (List.getElem_mem hlt)
      clear hown hb
      generalize txts (L.take k) = ts at *
      generalize L[k] = x at *
      have HI := Lib.hid (itoa_any x hx0 (by omega))
      have hwx : IntKind.i64.wrap (x + 1) = x + 1 := IntWalk.i64_in _ (by omega)
      generalize dig x = D at *
      have HTr := Lib.hid ((HTen.out.next HB0.out).next (HB.out.mono (Nat.le_refl _)))
      go_wp2_with (first
        | (go_at_call 27; refine (HI.out _ HTr.out).mono ?_; rintro e w2 ⟨rfl, hb2⟩; have HB2 := Lib.hid hb2; have HO2 := Lib.hid (HOwn.out.next hb2); have hsz2 := hb2.size; clear hb2)
        | (at_builtin; refine wpList_push rfl _ _ _ rfl w0.heap.size 9 (.string ⟨#[]⟩) 16 Tryd.underlying50 info_string rfl _ _ _ rfl (ostr_own HO2.out) (.string (bytesOf D)) rfl _ _ _ (by simp) rfl (by unfold maxLen; omega) (by omega) (by omega) ?_; intro v' w' hown' hg' hb'))
      go_roundw
      case rel => exact ⟨k + 1, _, by omega, by go_num, rfl, by rw [HS.out]; simpa [OStr] using hown', (HB.out.trans (HB2.out.mono HB.out.size)).trans hb'⟩
      case measure => simp [intOf]; omega
    · obtain rfl : k = L.length := by omega
      rw [List.take_length] at hown
      have htl : (txts L).length ≤ 500 := by unfold txts; simp; omega
      obtain ⟨Av, cv, rfl, _⟩ := hown.form
      have HJ := Lib.hid (join_any Av cv (txts L) _ htl HT.out wr hown)
      rw [← HF.out] at HJ
      have HB := Lib.hid (bstp HB0.out hb)
      clear hown hb
      generalize txts L = ts at *
      go_wp2_with (go_at_call 28; refine HJ.out.mono ?_; rintro e w1 ⟨rfl, hb1⟩)
      go_ret
      exact ⟨rfl, bstp HB.out hb1⟩
end Go.Proofs.YtnfdgioapbkonaaDoor

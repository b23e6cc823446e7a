/-
  The walk of Format.
-/
import Derived.Test.YtpiliicphoacfaaDoorParK
namespace Go.Proofs.YtpiliicphoacfaaDoor

open Go.RowKit Go.Sort

theorem itoa_any (n : Int) (w : World) (ht : Ten w) :
    Calls Tryd.prog 62 #[.int .i64 (clipP n 0 65535)] w fun e w' => e = .returned (.string (bytesOf (digs n))) ∧ Below w.heap.size w w' := by
  have h := clip_range n
  refine (Tryd.strconv_Itoa (clipP n 0 65535) (by omega) (by omega) w ht).mono fun e w' ⟨he, k, os, hw⟩ => ⟨?_, by rw [hw]; exact below_grow w k os⟩
  rw [he, itoa_digs]; rfl
/-- The texts of the numbers so far. -/
def txts (ms : List Int) : List ByteArray := ms.map fun n => bytesOf (digs n)
theorem txts_snoc (ms : List Int) (k : Nat) (h : k < ms.length) : txts (ms.take (k + 1)) = txts (ms.take k) ++ [bytesOf (digs ms[k])] := by
  unfold txts; rw [take_snoc ms k h, List.map_append]; rfl
theorem txts_data (ms : List Int) : (txts ms).map (·.data.toList) = ms.map digs := by unfold txts bytesOf; simp

set_option maxRecDepth 100000 in
set_option maxHeartbeats 2000000 in
theorem format_any (A : Option Addr) (c : Nat) (ns : List Int) (hl : ns.length ≤ maxLen) (hc : ns.length ≤ c) (w : World) (ht : Ten w) (hr : RInts w A ns) :
    Calls Tryd.prog 42 #[.slice A ns.length c] w fun e w' => e = .returned (.string (bytesOf (fmtL ns))) ∧ Below w.heap.size w w' := by
  unfold maxLen at hl
  have hr2 := rints_take hr 30
  obtain ⟨ms, hms, hF⟩ : ∃ ms, ms = ns.take 30 ∧ fmtL ns = Lib.join ((txts ms).map (·.data.toList)) [59] := ⟨_, rfl, by rw [txts_data]; rfl⟩
  rw [← hms] at hr2
  have HF := Lib.hid hF
  have h30 : ms.length ≤ 30 := by rw [hms, List.length_take]; omega
  clear hF
  have HT : Hid (∀ x ∈ txts ms, x.data.toList.length ≤ 5) := Lib.hid (fun x hx => by
    obtain ⟨n, _, rfl⟩ := List.mem_map.1 hx
    exact digs_len n)
  generalize fmtL ns = out at *
  have hcase : ms = ns ∨ (30 < ns.length ∧ 30 ≤ ms.length) := by
    by_cases h : ns.length ≤ 30
    · exact .inl (by rw [hms, List.take_of_length_le h])
    · exact .inr ⟨by omega, by rw [hms, List.length_take]; omega⟩
  clear hms hr
  rcases hcase with rfl | ⟨hn, hm⟩
  all_goals
    go_enter Tryd.func42, Tryd.ntmps42
    go_wp2_with fail
    go_loopw [3, 12] (fun t i wr => ∃ (k : Nat) (v : Value), k ≤ ms.length ∧ i = .int .i64 k ∧ t = v ∧ OStr wr w.heap.size v (txts (ms.take k)) ∧ Below w.heap.size w wr) (fun _ i _ => ms.length - (intOf i).toNat)
    case atStart => exact ⟨0, _, by omega, rfl, rfl, World.ownsRow_nil _ _ _ _, Below.refl _ _⟩
    case round =>
      obtain ⟨k, v, hk, rfl, rfl, hown, hb⟩ := hrel
      by_cases hlt : k < ms.length
      · obtain ⟨ad, rfl, hbd, hcell⟩ := (hr2.next hb).at_ hlt
        have HS := Lib.hid (txts_snoc ms k hlt)
        have hlen : (txts (ms.take k)).length ≤ 29 := by unfold txts; simp; omega
        have hform := hown.form
        obtain ⟨Av, cv, rfl, _⟩ := hform
        have HOwn := Lib.hid hown
        have HB := Lib.hid hb
        have hsz := hb.size
        clear hown
        generalize txts (ms.take k) = ts at *
        generalize ms[k] = x at *
        have HI := Lib.hid (itoa_any x)
        have HC := Lib.hid (clip_any x 0 65535)
        generalize digs x = D at *
        generalize clipP x 0 65535 = y at *
        go_wp2_with (first
          | (go_at_call 63; refine (HC.out _).mono ?_; rintro e w1 ⟨rfl, rfl⟩)
          | (go_at_call 62; refine (HI.out _ (ht.next HB.out)).mono ?_; rintro e w2 ⟨rfl, hb2⟩; have HB2 := Lib.hid hb2; have HO2 := Lib.hid (HOwn.out.next hb2); have hsz2 := hb2.size; clear hb2)
          | (at_builtin; refine wpList_push rfl _ _ _ rfl w.heap.size 9 (.string ⟨#[]⟩) 16 Tryd.underlying97 info_string rfl _ _ _ rfl (ostr_own HO2.out) (.string (bytesOf D)) rfl _ _ _ (by simp) rfl (by unfold maxLen; omega) (by omega) (by omega) ?_; intro v' w' hown' hg' hb'))
        go_roundw
        case rel => exact ⟨k + 1, _, by omega, by go_num, rfl, by rw [HS.out]; simpa [OStr] using hown', (HB.out.trans (HB2.out.mono HB.out.size)).trans hb'⟩
        case measure => simp [intOf]; omega
      · obtain rfl : k = ms.length := by omega
        rw [List.take_length] at hown
        have hlen : (txts ms).length ≤ 30 := by unfold txts; simp; omega
        have hform := hown.form
        obtain ⟨Av, cv, rfl, _⟩ := hform
        have HJ := Lib.hid (join_any Av cv (txts ms) _ hlen HT.out wr hown)
        rw [← HF.out] at HJ
        have HB := Lib.hid hb
        clear hown
        generalize txts ms = ts at *
        go_wp2_with (go_at_call 64; refine HJ.out.mono ?_; rintro e w1 ⟨rfl, hb1⟩)
        go_ret
        exact ⟨rfl, HB.out.trans (hb1.mono HB.out.size)⟩
end Go.Proofs.YtpiliicphoacfaaDoor

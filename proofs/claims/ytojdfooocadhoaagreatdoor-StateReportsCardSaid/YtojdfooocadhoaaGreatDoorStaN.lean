/-
  All of it, brought back by the document.
-/
import Derived.Test.YtojdfooocadhoaaGreatDoorStaM
namespace Go.Proofs.YtojdfooocadhoaaGreatDoor
open Go Go.RowKit

theorem ok_parts (y : Co) (n0 n1 n2 n3 n4 n5 n6 n7 n8 n9 n10 n11 : Int) : okN y n0 n1 n2 n3 n4 n5 n6 n7 n8 n9 n10 n11 = ((decide (n1 < 2) && (decide (n4 < 2) && (decide (n6 < 2) && decide (n11 < 2)))) && (!(decide (n0 < 1) || (decide (5 < n0) || (decide (31 < n2) || (decide (4095 < n3) || decide (2 < n5))))) && !(decide (n9 ≤ n7) || (decide (n10 ≤ n8) || (decide (y.f.pb < n9) || decide (y.f.pr < n10)))))) := by
  unfold okN
  rw [Bool.eq_iff_iff]
  simp only [decide_eq_true_eq, Bool.and_eq_true, Bool.not_eq_true', Bool.or_eq_false_iff, decide_eq_false_iff_not, Int.not_lt, Int.not_le]
set_option maxRecDepth 100000 in
set_option maxHeartbeats 8000000 in
theorem refRestore_bad {x : Co} {H W it il ib ir : Int} (h : FrOk x.f H W it il ib ir) (hr0 : 0 ≤ x.K.rd) (hr1 : x.K.rd ≤ 255) (s : ByteArray) (hs : s.size ≤ 140737488355328) (hbad : (parseV s.data.toList).2 ≠ 0 ∨ (parseV s.data.toList).1.length ≠ 12) (w : World) :
    Calls Tryz.prog 18 #[coV .i64 x, .string s] w fun e w' => e = .returned (.tuple #[coV .i64 (if okL (clnP x H W it il ib ir) (parseV s.data.toList).1 (parseV s.data.toList).2 = true then thenL (clnP x H W it il ib ir) (parseV s.data.toList).1 else clnP x H W it il ib ir), .bool (okL (clnP x H W it il ib ir) (parseV s.data.toList).1 (parseV s.data.toList).2)]) ∧ Below w.heap.size w w' := by
  have HCl := Lib.hid (fun V => refCleanC_any h hr0 hr1 V)
  have hk := cl_ok h
  have HPr := Lib.hid (fun V => refParse_all s hs V)
  have hpr := parseV_range s.data.toList
  generalize (parseV s.data.toList).1 = ns at *
  generalize (parseV s.data.toList).2 = er at *
  obtain ⟨y, hy⟩ : ∃ y, y = clnP x H W it il ib ir := ⟨_, rfl⟩
  rw [← hy] at HCl hk ⊢
  clear h hr0 hr1 hy hs
  have hS1 := coS .i64 x; have hS2 := coS .i64 y; have hO2 := co_one .i64 y
  rw [okL_bad y ns er hbad]
  simp only [Bool.false_eq_true, if_false]
  unfold coV at *
  generalize coC .i64 x = X at *
  generalize coC .i64 y = Y at *
  have HS := Lib.hid (Bs.start2' w 33 33 X (zO .i64))
  have hcs : (er = 3 ∧ True) ∨ (er = 0 ∧ ((ns.length : Int) != 12) = true) := by
    rcases hpr.2.2 with h | h
    · refine .inr ⟨h, ?_⟩
      have : ns.length ≠ 12 := by rcases hbad with g | g; exact absurd h g; exact g
      simp; omega
    · exact .inl ⟨h, trivial⟩
  clear hbad hpr hk
  rcases hcs with ⟨rfl, _⟩ | ⟨rfl, hl⟩
  all_goals
    go_enter Tryz.func18, Tryz.ntmps18
    go_wp2_with (first | (refine wpList_load_row rfl _ _ rfl w.heap.size rfl _ X (0, 0) _ HS.out.b0 under_cr rfl (by rw [hS1]; exact info_cr) ?_))
    refine (HCl.out _).mono ?_
    rintro e w1 ⟨rfl, hb⟩
    have HK1 := Lib.hid (HS.out.next hb)
    clear hb
    go_upto_region 2 with (refine wpList_store_row rfl _ _ _ rfl w.heap.size Y rfl rfl _ _ HK1.out.b0 (by rw [hS2]; exact info_cr) (by rw [hS1, hS2]) hO2 ?_)
    refine world_gen (fun V => Bs w [(w.heap.size, 33, Y), (w.heap.size + 1, 33, zO .i64)] V) (HK1.out.row Y) ?_
    intro w2 HV0
    replace HV0 := Lib.hid HV0
    clear HK1
    go_wp2_with fail
    refine (HPr.out _).mono ?_
    rintro e w3 ⟨⟨A, c, rfl, hown⟩, hb⟩
    have HK2 := Lib.hid (HV0.out.next hb)
    clear hb HV0 hown
    have HK3 := Lib.hid (HK2.out.sw1.row Y)
    go_upto_region 4 with fail
    go_step
    refine wpList_load_row rfl _ _ rfl w.heap.size rfl _ Y (0, 0) _ HK2.out.b0 under_cr rfl (by rw [hS2]; exact info_cr) ?_
    refine wpList_store_row rfl _ _ _ rfl (w.heap.size + 1) Y rfl rfl _ _ HK2.out.b1 (by rw [hS2]; exact info_cr) (by rw [hS2]; rfl) hO2 ?_
    repeat go_step
    refine bodyPost_ret (v := .tuple #[.agg Y, .bool false]) (results_row_tmp rfl _ _ (w.heap.size + 1) 33 Y (0, 0) _ (.bool false) rfl rfl HK3.out.b0 under_cr rfl (by rw [hS2]; exact info_cr)) rfl ⟨rfl, HK3.out.bel⟩
end Go.Proofs.YtojdfooocadhoaaGreatDoor

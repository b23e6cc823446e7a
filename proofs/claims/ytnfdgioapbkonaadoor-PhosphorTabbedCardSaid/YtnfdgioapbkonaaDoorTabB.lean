/-
  The walks of stops: is a number a column, the bit of a column, is there a stop.
-/
import Derived.Test.YtnfdgioapbkonaaDoorTabA
import Derived.Test.YtnfdgioapbkonaaDoorMixE
namespace Go.Proofs.YtnfdgioapbkonaaDoor

open Go Go.RowKit

theorem iscol_yes (B n : Nat) (h : Nat → Bool) (c : Nat) (hc : c < n) (w : World) (s : Stp w B n h) :
    Calls Tryd.prog 34 #[.pointer (some ⟨B, 0, none⟩), .int .i64 (c : Int)] w fun e w' => e = .returned (.bool true) ∧ Below w.heap.size w w' := by
  obtain ⟨c0, hn⟩ := s.cols
  go_enter Tryd.func34, Tryd.ntmps34
  go_wp2_with fail
  go_ret
  exact ⟨rfl, Below.refl _ _⟩
theorem iscol_no (B n : Nat) (h : Nat → Bool) (c : Int) (hc : ¬ (0 ≤ c ∧ c < n)) (w : World) (s : Stp w B n h) :
    Calls Tryd.prog 34 #[.pointer (some ⟨B, 0, none⟩), .int .i64 c] w fun e w' => e = .returned (.bool false) ∧ Below w.heap.size w w' := by
  obtain ⟨c0, hn⟩ := s.cols
  by_cases h0 : 0 ≤ c
  · have hd : decide (c < (n : Int)) = false := by simp; omega
    go_enter Tryd.func34, Tryd.ntmps34
    go_wp2_with fail
    go_ret
    exact ⟨rfl, Below.refl _ _⟩
  · have hd : decide (0 ≤ c) = false := by simp; omega
    go_enter Tryd.func34, Tryd.ntmps34
    go_wp2_with fail
    go_ret
    exact ⟨rfl, Below.refl _ _⟩
theorem pow_wrap (k : Nat) (hk : k < 64) : IntKind.u64.wrap (2 ^ k : Int) = ((2 ^ k : Nat) : Int) := by
  have h := wrap_bv (BitVec.ofNat 64 (2 ^ k))
  have e : (BitVec.ofNat 64 (2 ^ k)).toNat = 2 ^ k := by
    rw [BitVec.toNat_ofNat]; exact Nat.mod_eq_of_lt (Nat.pow_lt_pow_right (by omega) hk)
  rw [e] at h
  rw [← h]
  push_cast
  rfl
theorem bit_any (c : Nat) (hc : c < 512) (w : World) :
    Calls Tryd.prog 35 #[.int .i64 (c : Int)] w fun e w' => e = .returned (.int .u64 ((2 ^ (c % 64) : Nat) : Int)) ∧ Below w.heap.size w w' := by
  have hm : (c : Int).tmod 64 = ((c % 64 : Nat) : Int) := by rw [Int.tmod_eq_emod_of_nonneg (by omega)]; rfl
  have hk : c % 64 < 64 := Nat.mod_lt _ (by omega)
  have HP := Lib.hid (pow_wrap (c % 64) hk)
  have HM := Lib.hid hm
  clear hm
  generalize c % 64 = k at *
  have hm := HM.out
  go_enter Tryd.func35, Tryd.ntmps35
  go_wp2_with fail
  go_ret
  exact ⟨ret_int HP.out, Below.refl _ _⟩

set_option maxRecDepth 100000 in
set_option maxHeartbeats 4000000 in
theorem has_yes (B n : Nat) (h : Nat → Bool) (c : Nat) (hc : c < n) (w : World) (s : Stp w B n h) :
    Calls Tryd.prog 26 #[.pointer (some ⟨B, 0, none⟩), .int .i64 (c : Int)] w fun e w' => e = .returned (.bool (h c)) ∧ Below w.heap.size w w' := by
  have HI := Lib.hid (fun W s' => iscol_yes B n h c hc W s')
  have hn := s.cols.2
  have HBi := Lib.hid (fun W => bit_any c (by omega) W)
  have HS := Lib.hid s
  obtain ⟨ws, hblk, hst⟩ := s
  have hq : (c : Int).tdiv 64 = ((c / 64 : Nat) : Int) := by rw [Int.tdiv_eq_ediv_of_nonneg (by omega)]; rfl
  have hk8 : c / 64 < 8 := by omega
  have hkl : c / 64 < ws.length := by rw [hst.len]; exact hk8
  have hx : ws[c / 64]? = some ws[c / 64] := List.getElem?_eq_getElem hkl
  have HC := Lib.hid (fun w' (ho : Only [] w w') => ((hblk.next ho.below0).cell (1 + c / 64)).trans (stopsC_word n ws (c / 64) _ hx))
  have hbit : h c = ws[c / 64].testBit (c % 64) := by
    rw [← hst.has c (by omega)]
    unfold hasW
    rw [List.getD_eq_getElem?_getD, hx]
    rfl
  rw [hbit]
  have hm : c % 64 < 64 := Nat.mod_lt _ (by omega)
  have HA := Lib.hid (bits_and ws[c / 64] (c % 64))
  have HT := Lib.hid (and_test ws[c / 64] (c % 64) hm)
  have HBlk := Lib.hid hblk
  have HQ := Lib.hid hq
  clear hblk hst hx hbit hq
  generalize ws[c / 64] = x at *
  generalize c % 64 = m at *
  generalize c / 64 = k at *
  generalize x.testBit m = r at *
  generalize ((2 ^ m : Nat) : Int) = p at *
  have HKk : Hid (IntKind.i64.wrap (k : Int) = (k : Int) ∧ (k : Int) < 8) := Lib.hid ⟨IntWalk.i64_in _ (by omega), by omega⟩
  go_enter Tryd.func26, Tryd.ntmps26
  go_wp2_with fail
  refine wp_region_mix_lit (by kernel_rfl) [(2, .call (.bool true)), (12, .call (.int .u64 p))] (by kernel_rfl) (by kernel_rfl) (by kernel_rfl) (by rfl) (by simp [apartK] <;> omega) (by simp [startK]) (by simp [stabK]) (⟨fun _ => undef, by simp [okK]⟩) (fun β hβ => ?_)
  repeat (
    refine lex_val (v := ?_) rfl rfl (fun w' hf => ?_) ?_
    rotate_left
    · go_simp
      try rfl
    try simp only [Act.put, List.setIfInBounds_toArray, List.set_cons_zero, List.set_cons_succ])
  refine lex_call (f := 34) (args := ?_) rfl rfl (fun w' hf => ?_) (fun w' hf => ?_) ?_
  rotate_left
  · go_simp
    try rfl
  · exact HI.out w' (HS.out.next hf.only.below0)
  try simp only [Act.put, List.setIfInBounds_toArray, List.set_cons_zero, List.set_cons_succ]
  repeat (
    refine lex_val (v := ?_) rfl rfl (fun w' hf => ?_) ?_
    rotate_left
    · have hq := HQ.out; obtain ⟨hk1, hk2⟩ := HKk.out; have hce := HC.out w' hf.only; go_simp
      try rfl
    try simp only [Act.put, List.setIfInBounds_toArray, List.set_cons_zero, List.set_cons_succ])
  refine lex_call (f := 35) (args := ?_) rfl rfl (fun w' hf => ?_) (fun w' hf => ?_) ?_
  rotate_left
  · go_simp
    try rfl
  · exact HBi.out w'
  try simp only [Act.put, List.setIfInBounds_toArray, List.set_cons_zero, List.set_cons_succ]
  repeat (
    refine lex_val (v := ?_) rfl rfl (fun w' hf => ?_) ?_
    rotate_left
    · have ha := HA.out; have ht := HT.out; go_simp
      try rfl
    try simp only [Act.put, List.setIfInBounds_toArray, List.set_cons_zero, List.set_cons_succ])
  refine lex_nil fun w1 he => ?_
  have hb1 := he.only.below0
  clear he hβ HC
  go_wp2_with fail
  go_ret
  exact ⟨rfl, hb1⟩
theorem has_no (B n : Nat) (h : Nat → Bool) (c : Int) (hc : ¬ (0 ≤ c ∧ c < n)) (w : World) (s : Stp w B n h) :
    Calls Tryd.prog 26 #[.pointer (some ⟨B, 0, none⟩), .int .i64 c] w fun e w' => e = .returned (.bool false) ∧ Below w.heap.size w w' := by
  have HI := Lib.hid (fun W s' => iscol_no B n h c hc W s')
  have HS := Lib.hid s
  clear s hc
  go_enter Tryd.func26, Tryd.ntmps26
  go_wp2_with fail
  refine wp_region_mix_lit (by kernel_rfl) [(2, .call (.bool false))] (by kernel_rfl) (by kernel_rfl) (by kernel_rfl) (by rfl) (by simp [apartK] <;> omega) (by simp [startK]) (by simp [stabK]) (⟨fun _ => undef, by simp [okK]⟩) (fun β hβ => ?_)
  repeat (
    refine lex_val (v := ?_) rfl rfl (fun w' hf => ?_) ?_
    rotate_left
    · go_simp
      try rfl
    try simp only [Act.put, List.setIfInBounds_toArray, List.set_cons_zero, List.set_cons_succ])
  refine lex_call (f := 34) (args := ?_) rfl rfl (fun w' hf => ?_) (fun w' hf => ?_) ?_
  rotate_left
  · go_simp
    try rfl
  · exact HI.out w' (HS.out.next hf.only.below0)
  try simp only [Act.put, List.setIfInBounds_toArray, List.set_cons_zero, List.set_cons_succ]
  repeat (
    refine lex_val (v := ?_) rfl rfl (fun w' hf => ?_) ?_
    rotate_left
    · go_simp
      try rfl
    try simp only [Act.put, List.setIfInBounds_toArray, List.set_cons_zero, List.set_cons_succ])
  repeat (
    refine lex_skip rfl rfl ?_
    try simp only [Act.put, List.setIfInBounds_toArray, List.set_cons_zero, List.set_cons_succ])
  repeat (
    refine lex_val (v := ?_) rfl rfl (fun w' hf => ?_) ?_
    rotate_left
    · go_simp
      try rfl
    try simp only [Act.put, List.setIfInBounds_toArray, List.set_cons_zero, List.set_cons_succ])
  refine lex_nil fun w1 he => ?_
  have hb1 := he.only.below0
  clear he hβ
  go_wp2_with fail
  go_ret
  exact ⟨rfl, hb1⟩
end Go.Proofs.YtnfdgioapbkonaaDoor

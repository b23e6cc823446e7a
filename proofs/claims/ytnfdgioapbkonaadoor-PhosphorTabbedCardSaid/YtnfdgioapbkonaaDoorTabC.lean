/-
  The walks of stops: a stop that is set, one that is cleared; all cleared; the nearest column.
-/
import Derived.Test.YtnfdgioapbkonaaDoorTabB
namespace Go.Proofs.YtnfdgioapbkonaaDoor

open Go Go.RowKit

theorem only_far {g : Nat} {W W' : World} (h : Only [g] W W') : W.grownBy W' (some g) := ⟨h.os, h.tape, h.output, h.size, fun k hk hne => h.block k hk (by simp; rintro rfl; exact hne rfl)⟩
theorem Repl.to {w w' : World} {b : Nat} {T : TypeId} {cs cs' : Array Value} (h : Repl w w' b T cs) (e : cs = cs') : Repl w w' b T cs' := e ▸ h

set_option maxRecDepth 100000 in
set_option maxHeartbeats 4000000 in
theorem set_yes (B n : Nat) (h : Nat → Bool) (c : Nat) (hc : c < n) (w : World) (s : Stp w B n h) :
    Calls Tryd.prog 20 #[.pointer (some ⟨B, 0, none⟩), .int .i64 (c : Int)] w fun e w' => e = .returned (.tuple #[]) ∧ Stp w' B n (fun d => h d || decide (c = d)) ∧ w.grownBy w' (some B) := by
  have HI := Lib.hid (fun W s' => iscol_yes B n h c hc W s')
  have hn := s.cols.2
  have HBi := Lib.hid (fun W => bit_any c (by omega) W)
  have HS := Lib.hid s
  go_enter Tryd.func20, Tryd.ntmps20
  go_wp2_with fail
  refine (HI.out _ HS.out).mono ?_
  rintro e w0 ⟨rfl, hb0⟩
  obtain ⟨ws, hblk, hst⟩ := HS.out.next hb0
  have HG0 := Lib.hid (grown_of_below (r := some B) hb0)
  clear hb0 s
  have hq : (c : Int).tdiv 64 = ((c / 64 : Nat) : Int) := by rw [Int.tdiv_eq_ediv_of_nonneg (by omega)]; rfl
  have hk8 : c / 64 < 8 := by omega
  have hkl : c / 64 < ws.length := by rw [hst.len]; exact hk8
  have hx : ws[c / 64]? = some ws[c / 64] := List.getElem?_eq_getElem hkl
  have HC := Lib.hid (fun w' (hB : Blk w' B 56 (stopsC n ws)) => And.intro ((hB.cell (1 + c / 64)).trans (stopsC_word n ws (c / 64) _ hx)) (hB.frozen (1 + c / 64)))
  have HSt := Lib.hid (hst.or (c := c) (by omega))
  have HW : Hid (setW ws c orB = ws.set (c / 64) (orB ws[c / 64] (c % 64))) := Lib.hid (by unfold setW; rw [List.getD_eq_getElem?_getD, hx]; rfl)
  have HA := Lib.hid (bits_or ws[c / 64] (c % 64))
  have HBlk := Lib.hid hblk
  have HQ := Lib.hid hq
  clear hblk hst hx hq
  generalize ws[c / 64] = x at *
  generalize c % 64 = m at *
  generalize c / 64 = k at *
  generalize orB x m = y at *
  generalize ((2 ^ m : Nat) : Int) = p at *
  have HKk : Hid (IntKind.i64.wrap (k : Int) = (k : Int) ∧ (k : Int) < 8) := Lib.hid ⟨IntWalk.i64_in _ (by omega), by omega⟩
  go_wp2_with fail
  refine wp_region_mix_lit (by kernel_rfl) [(8, .call (.int .u64 p)), (13, .store B 56 (stopsC n ws) (fun _ => stopsC n (ws.set k y)))] (by kernel_rfl) (by kernel_rfl) (by kernel_rfl) (by rfl) (by simp [apartK] <;> omega) (by simp [startK]; exact HBlk.out) (by simp [stabK]) (⟨fun _ => undef, by simp [okK]⟩) (fun β hβ => ?_)
  repeat (
    refine lex_val (v := ?_) rfl rfl (fun w' hf => ?_) ?_
    rotate_left
    · have hq := HQ.out; obtain ⟨hk1, hk2⟩ := HKk.out; obtain ⟨hce, hfr⟩ := HC.out w' (hf.old 13 _ _ _ _ rfl (by kernel_rfl)); go_simp
      try rfl
    try simp only [Act.put, List.setIfInBounds_toArray, List.set_cons_zero, List.set_cons_succ])
  refine lex_call (f := 35) (args := ?_) rfl rfl (fun w' hf => ?_) (fun w' hf => ?_) ?_
  rotate_left
  · go_simp
    try rfl
  · exact HBi.out w'
  try simp only [Act.put, List.setIfInBounds_toArray, List.set_cons_zero, List.set_cons_succ]
  repeat (
    refine lex_val (v := ?_) rfl rfl (fun w' hf => ?_) ?_
    rotate_left
    · have hq := HQ.out; obtain ⟨hk1, hk2⟩ := HKk.out; have ha := HA.out; go_simp
      try rfl
    try simp only [Act.put, List.setIfInBounds_toArray, List.set_cons_zero, List.set_cons_succ])
  refine lex_store rfl rfl (fun w' hf hB => ⟨_, ?_, (Repl.set hB (1 + k) (.int .u64 (y : Int))).to (stopsC_set n ws k y)⟩) ?_
  · obtain ⟨hce, hfr⟩ := HC.out w' hB
    go_simp
  try simp only [Act.put]
  refine lex_nil fun w1 he => ?_
  have hb1 : Blk w1 B 56 (stopsC n (ws.set k y)) := he.facts 13
  have hg1 := only_far he.only
  have hst := HSt.out
  rw [HW.out] at hst
  clear he hβ HC
  go_wp2_with fail
  go_end0
  exact ⟨rfl, ⟨_, hb1, hst⟩, grown_tr HG0.out hg1⟩
theorem set_no (B n : Nat) (h : Nat → Bool) (c : Int) (hc : ¬ (0 ≤ c ∧ c < n)) (w : World) (s : Stp w B n h) :
    Calls Tryd.prog 20 #[.pointer (some ⟨B, 0, none⟩), .int .i64 c] w fun e w' => e = .returned (.tuple #[]) ∧ Stp w' B n h ∧ w.grownBy w' (some B) := by
  have HI := Lib.hid (iscol_no B n h c hc w s)
  have HS := Lib.hid s
  clear s hc
  go_enter Tryd.func20, Tryd.ntmps20
  go_wp2_with fail
  refine HI.out.mono ?_
  rintro e w0 ⟨rfl, hb0⟩
  have HS0 := Lib.hid (HS.out.next hb0)
  have HG0 := Lib.hid (grown_of_below (r := some B) hb0)
  clear hb0
  go_wp2_with fail
  go_end0
  exact ⟨rfl, HS0.out, HG0.out⟩

set_option maxRecDepth 100000 in
set_option maxHeartbeats 4000000 in
theorem clear_yes (B n : Nat) (h : Nat → Bool) (c : Nat) (hc : c < n) (w : World) (s : Stp w B n h) :
    Calls Tryd.prog 21 #[.pointer (some ⟨B, 0, none⟩), .int .i64 (c : Int)] w fun e w' => e = .returned (.tuple #[]) ∧ Stp w' B n (fun d => h d && !decide (c = d)) ∧ w.grownBy w' (some B) := by
  have HI := Lib.hid (fun W s' => iscol_yes B n h c hc W s')
  have hn := s.cols.2
  have HBi := Lib.hid (fun W => bit_any c (by omega) W)
  have HS := Lib.hid s
  go_enter Tryd.func21, Tryd.ntmps21
  go_wp2_with fail
  refine (HI.out _ HS.out).mono ?_
  rintro e w0 ⟨rfl, hb0⟩
  obtain ⟨ws, hblk, hst⟩ := HS.out.next hb0
  have HG0 := Lib.hid (grown_of_below (r := some B) hb0)
  clear hb0 s
  have hq : (c : Int).tdiv 64 = ((c / 64 : Nat) : Int) := by rw [Int.tdiv_eq_ediv_of_nonneg (by omega)]; rfl
  have hk8 : c / 64 < 8 := by omega
  have hkl : c / 64 < ws.length := by rw [hst.len]; exact hk8
  have hx : ws[c / 64]? = some ws[c / 64] := List.getElem?_eq_getElem hkl
  have HC := Lib.hid (fun w' (hB : Blk w' B 56 (stopsC n ws)) => And.intro ((hB.cell (1 + c / 64)).trans (stopsC_word n ws (c / 64) _ hx)) (hB.frozen (1 + c / 64)))
  have HSt := Lib.hid (hst.clr (c := c) (by omega))
  have HW : Hid (setW ws c clrB = ws.set (c / 64) (clrB ws[c / 64] (c % 64))) := Lib.hid (by unfold setW; rw [List.getD_eq_getElem?_getD, hx]; rfl)
  have HA := Lib.hid (bits_clr ws[c / 64] (c % 64))
  have HBlk := Lib.hid hblk
  have HQ := Lib.hid hq
  clear hblk hst hx hq
  generalize ws[c / 64] = x at *
  generalize c % 64 = m at *
  generalize c / 64 = k at *
  generalize clrB x m = y at *
  generalize ((2 ^ m : Nat) : Int) = p at *
  have HKk : Hid (IntKind.i64.wrap (k : Int) = (k : Int) ∧ (k : Int) < 8) := Lib.hid ⟨IntWalk.i64_in _ (by omega), by omega⟩
  go_wp2_with fail
  refine wp_region_mix_lit (by kernel_rfl) [(8, .call (.int .u64 p)), (13, .store B 56 (stopsC n ws) (fun _ => stopsC n (ws.set k y)))] (by kernel_rfl) (by kernel_rfl) (by kernel_rfl) (by rfl) (by simp [apartK] <;> omega) (by simp [startK]; exact HBlk.out) (by simp [stabK]) (⟨fun _ => undef, by simp [okK]⟩) (fun β hβ => ?_)
  repeat (
    refine lex_val (v := ?_) rfl rfl (fun w' hf => ?_) ?_
    rotate_left
    · have hq := HQ.out; obtain ⟨hk1, hk2⟩ := HKk.out; obtain ⟨hce, hfr⟩ := HC.out w' (hf.old 13 _ _ _ _ rfl (by kernel_rfl)); go_simp
      try rfl
    try simp only [Act.put, List.setIfInBounds_toArray, List.set_cons_zero, List.set_cons_succ])
  refine lex_call (f := 35) (args := ?_) rfl rfl (fun w' hf => ?_) (fun w' hf => ?_) ?_
  rotate_left
  · go_simp
    try rfl
  · exact HBi.out w'
  try simp only [Act.put, List.setIfInBounds_toArray, List.set_cons_zero, List.set_cons_succ]
  repeat (
    refine lex_val (v := ?_) rfl rfl (fun w' hf => ?_) ?_
    rotate_left
    · have hq := HQ.out; obtain ⟨hk1, hk2⟩ := HKk.out; have ha := HA.out; go_simp
      try rfl
    try simp only [Act.put, List.setIfInBounds_toArray, List.set_cons_zero, List.set_cons_succ])
  refine lex_store rfl rfl (fun w' hf hB => ⟨_, ?_, (Repl.set hB (1 + k) (.int .u64 (y : Int))).to (stopsC_set n ws k y)⟩) ?_
  · obtain ⟨hce, hfr⟩ := HC.out w' hB
    go_simp
  try simp only [Act.put]
  refine lex_nil fun w1 he => ?_
  have hb1 : Blk w1 B 56 (stopsC n (ws.set k y)) := he.facts 13
  have hg1 := only_far he.only
  have hst := HSt.out
  rw [HW.out] at hst
  clear he hβ HC
  go_wp2_with fail
  go_end0
  exact ⟨rfl, ⟨_, hb1, hst⟩, grown_tr HG0.out hg1⟩
theorem clear_no (B n : Nat) (h : Nat → Bool) (c : Int) (hc : ¬ (0 ≤ c ∧ c < n)) (w : World) (s : Stp w B n h) :
    Calls Tryd.prog 21 #[.pointer (some ⟨B, 0, none⟩), .int .i64 c] w fun e w' => e = .returned (.tuple #[]) ∧ Stp w' B n h ∧ w.grownBy w' (some B) := by
  have HI := Lib.hid (iscol_no B n h c hc w s)
  have HS := Lib.hid s
  clear s hc
  go_enter Tryd.func21, Tryd.ntmps21
  go_wp2_with fail
  refine HI.out.mono ?_
  rintro e w0 ⟨rfl, hb0⟩
  have HS0 := Lib.hid (HS.out.next hb0)
  have HG0 := Lib.hid (grown_of_below (r := some B) hb0)
  clear hb0
  go_wp2_with fail
  go_end0
  exact ⟨rfl, HS0.out, HG0.out⟩

theorem cols_any (B n : Nat) (h : Nat → Bool) (w : World) (s : Stp w B n h) :
    Calls Tryd.prog 10 #[.pointer (some ⟨B, 0, none⟩)] w fun e w' => e = .returned (.int .i64 n) ∧ Below w.heap.size w w' := by
  obtain ⟨c0, hn⟩ := s.cols
  go_enter Tryd.func10, Tryd.ntmps10
  go_wp2_with fail
  go_ret
  exact ⟨rfl, Below.refl _ _⟩
/-- The column that is nearest to a number. -/
def nearP (n : Nat) (c : Int) : Int := max (min c (n - 1)) 0
theorem nearest_any (B n : Nat) (h : Nat → Bool) (c : Int) (w : World) (s : Stp w B n h) :
    Calls Tryd.prog 32 #[.pointer (some ⟨B, 0, none⟩), .int .i64 c] w fun e w' => e = .returned (.int .i64 (nearP n c)) ∧ Below w.heap.size w w' := by
  obtain ⟨c0, hn⟩ := s.cols
  have HP : Hid (nearP n c = max (min c (n - 1)) 0) := Lib.hid rfl
  generalize nearP n c = x at *
  go_enter Tryd.func32, Tryd.ntmps32
  go_wp2_with fail
  all_goals
    go_ret
    exact ⟨ret_int (by rw [HP.out]; omega), Below.refl _ _⟩
end Go.Proofs.YtnfdgioapbkonaaDoor

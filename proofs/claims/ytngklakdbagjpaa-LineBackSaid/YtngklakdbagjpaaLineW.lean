/-
  The walks of the reference's Insert and Delete.
-/
import Derived.Test.YtngklakdbagjpaaLineV
namespace Go.Proofs.Ytngklakdbagjpaa
open Go Go.RowKit

theorem LnF.own {B n c : Nat} {L : List Cl} {size : Int} {A : Option Addr} {W : World} (h : LnF B L size (lineV A n c size) W) (hn : n = L.length) : OCells W B (.slice A n c) L := by
  obtain ⟨A', c', base, e, hb, ho⟩ := h
  subst hn
  unfold lineV at e
  injection e with e
  injection e with e
  have e2 := List.cons.inj e
  obtain ⟨e3, _⟩ := e2
  injection e3 with e4 e5 e6
  subst e4 e6
  exact World.ownsRow.mono ho hb
theorem clamp_clamp (q : Int) (M : Nat) (h : M ≤ 100000) : clampP (clampP q 0 500000) (-(M : Int)) M = (cntP M q : Nat) := by
  unfold clampP cntP
  split <;> split <;> (try split) <;> (try split) <;> omega
theorem clamp_clampN (q : Int) (M : Nat) (h : M ≤ 100000) : clampP (-clampP q 0 500000) (-(M : Int)) M = -(cntP M q : Nat) := by
  unfold clampP cntP
  split <;> split <;> (try split) <;> (try split) <;> omega

set_option maxRecDepth 100000 in
set_option maxHeartbeats 8000000 in
theorem refInsert_any (A0 : Option Addr) (c0 : Nat) (l : List Cl) (size f t q : Int) (hl : l.length ≤ 100000) (w : World) (hr : RCells w A0 l) :
    Calls Try.prog 13 #[lineV A0 l.length c0 size, .int .i64 f, .int .i64 t, .int .i64 q] w fun e w' => ∃ A c, e = .returned (lineV A l.length c size) ∧ OCells w' (w.heap.size + 2) (.slice A l.length c) (insP l (loP f) (hiP l.length t - loP f) (cntP (hiP l.length t - loP f) q)) ∧ Below w.heap.size w w' := by
  have hT : hiP l.length t ≤ l.length := by unfold hiP; omega
  have hK : cntP (hiP l.length t - loP f) q ≤ hiP l.length t - loP f := by unfold cntP; omega
  have HM := Lib.hid (fun W h => (by
    have := refMove_any A0 c0 l size f t (clampP q 0 500000) hl W h
    rw [clamp_clamp q _ (by omega), mov_ins l _ _ _ hT hK] at this
    exact this : Calls Try.prog 37 #[lineV A0 l.length c0 size, .int .i64 f, .int .i64 t, .int .i64 (clampP q 0 500000)] W fun e w' => ∃ A c, e = .returned (lineV A l.length c size) ∧ OCells w' (W.heap.size + 2) (.slice A l.length c) (insP l (loP f) (hiP l.length t - loP f) (cntP (hiP l.length t - loP f) q)) ∧ Below W.heap.size W w'))
  have HLn : Hid (l.length = (insP l (loP f) (hiP l.length t - loP f) (cntP (hiP l.length t - loP f) q)).length) := Lib.hid (by rw [← mov_ins l _ _ _ hT hK, updP_len])
  have HCl := Lib.hid (fun W => clamp_any q 0 500000 W)
  have HR := Lib.hid hr
  clear hr hT hK
  generalize insP l (loP f) (hiP l.length t - loP f) (cntP (hiP l.length t - loP f) q) = L at *
  generalize clampP q 0 500000 = z at *
  unfold lineV at *
  have HK := Lib.hid (KL.start w #[.slice A0 l.length c0, .int .i64 size] #[.slice none 0 0, .int .i64 0])
  go_enter Try.func13, Try.ntmps13
  go_wp2_with fail
  have HR1 := Lib.hid (HR.out.next HK.out.2.2)
  have hz1 : ((w.alloc (.cells #[.slice A0 l.length c0, .int .i64 size] 24)).alloc (.cells #[.slice none 0 0, .int .i64 0] 24)).heap.size = w.heap.size + 2 := by simp
  have HZ1 := Lib.hid hz1
  clear hz1
  generalize (w.alloc (.cells #[.slice A0 l.length c0, .int .i64 size] 24)).alloc (.cells #[.slice none 0 0, .int .i64 0] 24) = W1 at *
  have HC := Lib.hid (fun w' (h : Only [w.heap.size + 1] W1 w') => cells2 (h.blk HK.out.1 (by simp)))
  have HBl := Lib.hid (fun w' (h : Only [w.heap.size + 1] W1 w') => HK.out.2.2.trans (h.below (B := w.heap.size) HK.out.2.2.size (by simp)))
  refine wp_region_mix_lit (by kernel_rfl) [(4, .call (.int .i64 z)), (5, .letter (LnP l.length size) (LnF W1.heap.size L size)), (6, .store (w.heap.size + 1) 24 #[.slice none 0 0, .int .i64 0] (fun β => unAgg (β 5)))] (by kernel_rfl) (by kernel_rfl) (by kernel_rfl) (by rfl) (by simp [apartK] <;> omega) (by simp [startK]; exact HK.out.2.1) (by repeat (first | (refine List.forall_mem_cons.2 ⟨?_, ?_⟩; (first | exact trivial | exact lnF_stab _ _ _ _ (by simp [boxes, Kind.boxed]))) | (intro x hx; cases hx; done))) (⟨fun i => lineV none l.length l.length size, by repeat (first | (refine List.forall_mem_cons.2 ⟨?_, ?_⟩; (first | exact trivial | exact ⟨none, _, rfl, Nat.le_refl _⟩ | exact ⟨_, rfl, Nat.le_refl _⟩)) | (intro x hx; cases hx; done))⟩) (fun β hβ => ?_)
  obtain ⟨A, c, e1, _⟩ := (hβ 5 : LnP l.length size (β 5))
  unfold lineV at e1
  repeat (
    refine lex_val (v := ?_) rfl rfl (fun w' hf => ?_) ?_
    rotate_left
    · obtain ⟨c0', c1', _, _⟩ := HC.out w' hf.only; go_simp
      try rfl
    try simp only [Act.put, List.setIfInBounds_toArray, List.set_cons_zero, List.set_cons_succ])
  refine lex_call (f := 16) (args := ?_) rfl rfl (fun w' hf => ?_) (fun w' hf => ?_) ?_
  rotate_left
  · go_simp
    try rfl
  · exact (HCl.out w').mono fun _ _ ⟨h1, h2⟩ => ⟨h1, h2 ▸ Below.refl _ _⟩
  try simp only [Act.put, List.setIfInBounds_toArray, List.set_cons_zero, List.set_cons_succ]
  repeat (
    refine lex_val (v := ?_) rfl rfl (fun w' hf => ?_) ?_
    rotate_left
    · obtain ⟨c0', c1', _, _⟩ := HC.out w' hf.only; go_simp
      try rfl
    try simp only [Act.put, List.setIfInBounds_toArray, List.set_cons_zero, List.set_cons_succ])
  refine lex_letter (f := 37) (args := ?_) rfl rfl (fun w' hf => ?_) (fun w' hf => ?_) ?_
  rotate_left
  · go_simp
    try rfl
  · exact ln_own (by have := hf.only.size; omega) HLn.out (HM.out w' (HR.out.next (HBl.out w' hf.only)))
  try simp only [Act.put, List.setIfInBounds_toArray, List.set_cons_zero, List.set_cons_succ]
  repeat (
    refine lex_val (v := ?_) rfl rfl (fun w' hf => ?_) ?_
    rotate_left
    · obtain ⟨c0', c1', _, _⟩ := HC.out w' hf.only; go_simp
      try rfl
    try simp only [Act.put, List.setIfInBounds_toArray, List.set_cons_zero, List.set_cons_succ])
  refine lex_store rfl rfl (fun w' hf hB => ⟨_, ?_, (repl2 hB (.slice A l.length c) (.int .i64 size)).to (by rw [e1]; rfl)⟩) ?_
  · have gB := cells2 hB
    go_simp
  try simp only [Act.put]
  refine lex_nil fun W2 he => ?_
  have hblk : Blk W2 (w.heap.size + 1) 24 (unAgg (β 5)) := he.facts 6
  have hO2 : LnF W1.heap.size L size (β 5) W2 := (he.facts 5).2
  rw [e1] at hblk hO2
  have HO := Lib.hid (LnF.own (show LnF W1.heap.size L size (lineV A l.length c size) W2 from hO2) HLn.out)
  rw [HZ1.out] at HO
  have HB2 := Lib.hid (HBl.out W2 he.only)
  have e0 : W2.cell? ⟨w.heap.size + 1, 0, none⟩ = some (.slice A l.length c) := hblk.cell 0
  have e2 : W2.cell? ⟨w.heap.size + 1, 1, none⟩ = some (.int .i64 size) := hblk.cell 1
  clear he hβ hblk hO2 e1 HK HC HR1 HBl HZ1
  go_wp2_with fail
  exact bodyPost_ret (v := .agg #[.slice A l.length c, .int .i64 size]) (by simp [results, Try.results13, go_sem, e0, e2]) rfl ⟨A, c, rfl, HO.out, HB2.out⟩

set_option maxRecDepth 100000 in
set_option maxHeartbeats 8000000 in
theorem refDelete_any (A0 : Option Addr) (c0 : Nat) (l : List Cl) (size f t q : Int) (hl : l.length ≤ 100000) (w : World) (hr : RCells w A0 l) :
    Calls Try.prog 14 #[lineV A0 l.length c0 size, .int .i64 f, .int .i64 t, .int .i64 q] w fun e w' => ∃ A c, e = .returned (lineV A l.length c size) ∧ OCells w' (w.heap.size + 2) (.slice A l.length c) (delP l (loP f) (hiP l.length t - loP f) (cntP (hiP l.length t - loP f) q)) ∧ Below w.heap.size w w' := by
  have hT : hiP l.length t ≤ l.length := by unfold hiP; omega
  have hK : cntP (hiP l.length t - loP f) q ≤ hiP l.length t - loP f := by unfold cntP; omega
  have HM := Lib.hid (fun W h => (by
    have := refMove_any A0 c0 l size f t (-clampP q 0 500000) hl W h
    rw [clamp_clampN q _ (by omega), mov_del l _ _ _ hT hK] at this
    exact this : Calls Try.prog 37 #[lineV A0 l.length c0 size, .int .i64 f, .int .i64 t, .int .i64 (-clampP q 0 500000)] W fun e w' => ∃ A c, e = .returned (lineV A l.length c size) ∧ OCells w' (W.heap.size + 2) (.slice A l.length c) (delP l (loP f) (hiP l.length t - loP f) (cntP (hiP l.length t - loP f) q)) ∧ Below W.heap.size W w'))
  have HLn : Hid (l.length = (delP l (loP f) (hiP l.length t - loP f) (cntP (hiP l.length t - loP f) q)).length) := Lib.hid (by rw [← mov_del l _ _ _ hT hK, updP_len])
  have HCl := Lib.hid (fun W => clamp_any q 0 500000 W)
  have hz : 0 ≤ clampP q 0 500000 ∧ clampP q 0 500000 ≤ 500000 := by unfold clampP; split <;> (try split) <;> omega
  have HR := Lib.hid hr
  clear hr hT hK
  generalize delP l (loP f) (hiP l.length t - loP f) (cntP (hiP l.length t - loP f) q) = L at *
  generalize clampP q 0 500000 = z at *
  have HW : Hid (IntKind.i64.wrap (-z) = -z) := Lib.hid (IntWalk.i64_in _ (by omega))
  unfold lineV at *
  have HK := Lib.hid (KL.start w #[.slice A0 l.length c0, .int .i64 size] #[.slice none 0 0, .int .i64 0])
  go_enter Try.func14, Try.ntmps14
  go_wp2_with fail
  have HR1 := Lib.hid (HR.out.next HK.out.2.2)
  have hz1 : ((w.alloc (.cells #[.slice A0 l.length c0, .int .i64 size] 24)).alloc (.cells #[.slice none 0 0, .int .i64 0] 24)).heap.size = w.heap.size + 2 := by simp
  have HZ1 := Lib.hid hz1
  clear hz1
  generalize (w.alloc (.cells #[.slice A0 l.length c0, .int .i64 size] 24)).alloc (.cells #[.slice none 0 0, .int .i64 0] 24) = W1 at *
  have HC := Lib.hid (fun w' (h : Only [w.heap.size + 1] W1 w') => cells2 (h.blk HK.out.1 (by simp)))
  have HBl := Lib.hid (fun w' (h : Only [w.heap.size + 1] W1 w') => HK.out.2.2.trans (h.below (B := w.heap.size) HK.out.2.2.size (by simp)))
  refine wp_region_mix_lit (by kernel_rfl) [(4, .call (.int .i64 z)), (6, .letter (LnP l.length size) (LnF W1.heap.size L size)), (7, .store (w.heap.size + 1) 24 #[.slice none 0 0, .int .i64 0] (fun β => unAgg (β 6)))] (by kernel_rfl) (by kernel_rfl) (by kernel_rfl) (by rfl) (by simp [apartK] <;> omega) (by simp [startK]; exact HK.out.2.1) (by repeat (first | (refine List.forall_mem_cons.2 ⟨?_, ?_⟩; (first | exact trivial | exact lnF_stab _ _ _ _ (by simp [boxes, Kind.boxed]))) | (intro x hx; cases hx; done))) (⟨fun i => lineV none l.length l.length size, by repeat (first | (refine List.forall_mem_cons.2 ⟨?_, ?_⟩; (first | exact trivial | exact ⟨none, _, rfl, Nat.le_refl _⟩ | exact ⟨_, rfl, Nat.le_refl _⟩)) | (intro x hx; cases hx; done))⟩) (fun β hβ => ?_)
  obtain ⟨A, c, e1, _⟩ := (hβ 6 : LnP l.length size (β 6))
  unfold lineV at e1
  repeat (
    refine lex_val (v := ?_) rfl rfl (fun w' hf => ?_) ?_
    rotate_left
    · obtain ⟨c0', c1', _, _⟩ := HC.out w' hf.only; go_simp
      try rfl
    try simp only [Act.put, List.setIfInBounds_toArray, List.set_cons_zero, List.set_cons_succ])
  refine lex_call (f := 16) (args := ?_) rfl rfl (fun w' hf => ?_) (fun w' hf => ?_) ?_
  rotate_left
  · go_simp
    try rfl
  · exact (HCl.out w').mono fun _ _ ⟨h1, h2⟩ => ⟨h1, h2 ▸ Below.refl _ _⟩
  try simp only [Act.put, List.setIfInBounds_toArray, List.set_cons_zero, List.set_cons_succ]
  refine lex_val (v := ?_) rfl rfl (fun w' hf => ?_) ?_
  rotate_left
  · have hw := HW.out; go_simp
    try rfl
  try simp only [Act.put, List.setIfInBounds_toArray, List.set_cons_zero, List.set_cons_succ]
  repeat (
    refine lex_val (v := ?_) rfl rfl (fun w' hf => ?_) ?_
    rotate_left
    · obtain ⟨c0', c1', _, _⟩ := HC.out w' hf.only; go_simp
      try rfl
    try simp only [Act.put, List.setIfInBounds_toArray, List.set_cons_zero, List.set_cons_succ])
  refine lex_letter (f := 37) (args := ?_) rfl rfl (fun w' hf => ?_) (fun w' hf => ?_) ?_
  rotate_left
  · go_simp
    try rfl
  · exact ln_own (by have := hf.only.size; omega) HLn.out (HM.out w' (HR.out.next (HBl.out w' hf.only)))
  try simp only [Act.put, List.setIfInBounds_toArray, List.set_cons_zero, List.set_cons_succ]
  repeat (
    refine lex_val (v := ?_) rfl rfl (fun w' hf => ?_) ?_
    rotate_left
    · obtain ⟨c0', c1', _, _⟩ := HC.out w' hf.only; go_simp
      try rfl
    try simp only [Act.put, List.setIfInBounds_toArray, List.set_cons_zero, List.set_cons_succ])
  refine lex_store rfl rfl (fun w' hf hB => ⟨_, ?_, (repl2 hB (.slice A l.length c) (.int .i64 size)).to (by rw [e1]; rfl)⟩) ?_
  · have gB := cells2 hB
    go_simp
  try simp only [Act.put]
  refine lex_nil fun W2 he => ?_
  have hblk : Blk W2 (w.heap.size + 1) 24 (unAgg (β 6)) := he.facts 7
  have hO2 : LnF W1.heap.size L size (β 6) W2 := (he.facts 6).2
  rw [e1] at hblk hO2
  have HO := Lib.hid (LnF.own (show LnF W1.heap.size L size (lineV A l.length c size) W2 from hO2) HLn.out)
  rw [HZ1.out] at HO
  have HB2 := Lib.hid (HBl.out W2 he.only)
  have e0 : W2.cell? ⟨w.heap.size + 1, 0, none⟩ = some (.slice A l.length c) := hblk.cell 0
  have e2 : W2.cell? ⟨w.heap.size + 1, 1, none⟩ = some (.int .i64 size) := hblk.cell 1
  clear he hβ hblk hO2 e1 HK HC HR1 HBl HZ1
  go_wp2_with fail
  exact bodyPost_ret (v := .agg #[.slice A l.length c, .int .i64 size]) (by simp [results, Try.results14, go_sem, e0, e2]) rfl ⟨A, c, rfl, HO.out, HB2.out⟩
end Go.Proofs.Ytngklakdbagjpaa

/-
  The deeds that are done with every cell of a span: erased, cleaned.
-/
import Derived.Test.YtbndnaohjloanaaDoorDeedC
import Derived.Test.YtbndnaohjloanaaDoorLineX
namespace Go.Proofs.YtbndnaohjloanaaDoor

open Go Go.RowKit

theorem LnF.ownD {B n c : Nat} {L : List Cl} {size : Int} {A : Option Addr} {W : World} (h : LnF B L size (lineV A n c size) W) (hn : n = L.length) : OCells W B (.slice A n c) L := by
  obtain ⟨A', c', base, e, hb, ho⟩ := h
  subst hn
  unfold lineV at e
  injection e with e
  injection e with e
  have e2 := List.cons.inj e
  obtain ⟨e3, _⟩ := e2
  injection e3 with e4 e5 e6
  subst e4 e6
  exact World.ownsRow.mono ho hb
set_option maxRecDepth 100000 in
set_option maxHeartbeats 8000000 in
theorem erase_any (A0 : Option Addr) (c0 : Nat) (l : List Cl) (size f t : Int) (hl : l.length ≤ 100000) (w : World) (hr : RCells w A0 l) :
    Calls Tryd.prog 8 #[lineV A0 l.length c0 size, .int .i64 f, .int .i64 t] w fun e w' => ∃ A c, e = .returned (lineV A l.length c size) ∧ OCells w' (w.heap.size + 2) (.slice A l.length c) (eachP (fun _ => ⟨32, 0, false⟩) l (loP f) (hiP l.length t - loP f)) ∧ Below w.heap.size w w' := by
  have hmf : ∀ (fn : Fn) (first cap : Array Value) (w : World), (Instr.makeFunc fn first cap).run Tryd.prog w = .ok (.func fn first cap) w := fun _ _ _ _ => rfl
  have HM := Lib.hid (fun W h => each_any 26 (Cl.val ⟨32, 0, false⟩) (fun _ => ⟨32, 0, false⟩) (fun args W => Tryd.call26 args W) A0 c0 l size f t hl W h (fun y _ V _ => cover_any ⟨32, 0, false⟩ y V))
  have HLn : Hid (l.length = (eachP (fun _ => ⟨32, 0, false⟩) l (loP f) (hiP l.length t - loP f)).length) := Lib.hid (by
    by_cases h : loP f ≤ hiP l.length t
    · rw [eachP_len _ _ _ _ (by unfold hiP at *; omega)]
    · rw [show hiP l.length t - loP f = 0 from by omega, eachP_zero])
  have HLl := Lib.hid (show (eachP (fun _ => ⟨32, 0, false⟩) l (loP f) (hiP l.length t - loP f)).length ≤ 100000 from by rw [← HLn.out]; exact hl)
  have HEr := Lib.hid (fun W => erased_any W)
  have HR := Lib.hid hr
  clear hr
  generalize eachP (fun _ => ⟨32, 0, false⟩) l (loP f) (hiP l.length t - loP f) = L at *
  unfold lineV Cl.val at *
  have HK := Lib.hid (KL.start w #[.slice A0 l.length c0, .int .i64 size] #[.slice none 0 0, .int .i64 0])
  go_enter Tryd.func8, Tryd.ntmps8
  go_upto_region 1 with fail
  have HR1 := Lib.hid (HR.out.next HK.out.2.2)
  have hz1 : ((w.alloc (.cells #[.slice A0 l.length c0, .int .i64 size] 29)).alloc (.cells #[.slice none 0 0, .int .i64 0] 29)).heap.size = w.heap.size + 2 := by simp
  have HZ1 := Lib.hid hz1
  clear hz1
  generalize (w.alloc (.cells #[.slice A0 l.length c0, .int .i64 size] 29)).alloc (.cells #[.slice none 0 0, .int .i64 0] 29) = W1 at *
  have HC := Lib.hid (fun w' (h : Only [w.heap.size + 1] W1 w') => cells2 (h.blk HK.out.1 (by simp)))
  have HBl := Lib.hid (fun w' (h : Only [w.heap.size + 1] W1 w') => HK.out.2.2.trans (h.below (B := w.heap.size) HK.out.2.2.size (by simp)))
  refine wp_region_mix_lit (by kernel_rfl) [(3, .call (.agg #[.int .i32 32, .int .u8 0, .bool false])), (6, .letter (LnP l.length size) (LnF W1.heap.size L size)), (7, .store (w.heap.size + 1) 29 #[.slice none 0 0, .int .i64 0] (fun β => unAgg (β 6)))] (by kernel_rfl) (by kernel_rfl) (by kernel_rfl) (by rfl) (by simp [apartK] <;> omega) (by simp [startK]; exact HK.out.2.1) (by repeat (first | (refine List.forall_mem_cons.2 ⟨?_, ?_⟩; (first | exact trivial | exact lnF_stab _ _ _ _ (by simp [boxes, Kind.boxed]))) | (intro x hx; cases hx; done))) (⟨fun i => lineV none l.length l.length size, by repeat (first | (refine List.forall_mem_cons.2 ⟨?_, ?_⟩; (first | exact trivial | exact ⟨none, _, rfl, Nat.le_refl _⟩ | exact ⟨_, rfl, Nat.le_refl _⟩)) | (intro x hx; cases hx; done))⟩) (fun β hβ => ?_)
  obtain ⟨A, c, e1, _⟩ := (hβ 6 : LnP l.length size (β 6))
  unfold lineV at e1
  repeat (
    refine lex_val (v := ?_) rfl rfl (fun w' hf => ?_) ?_
    rotate_left
    · obtain ⟨c0', c1', _, _⟩ := HC.out w' hf.only; go_simp
      try rfl
    try simp only [Act.put, List.setIfInBounds_toArray, List.set_cons_zero, List.set_cons_succ])
  refine lex_call (f := 25) (args := ?_) rfl rfl (fun w' hf => ?_) (fun w' hf => ?_) ?_
  rotate_left
  · go_simp
    try rfl
  · exact HEr.out w'
  try simp only [Act.put, List.setIfInBounds_toArray, List.set_cons_zero, List.set_cons_succ]
  repeat (
    refine lex_val (v := ?_) rfl rfl (fun w' hf => ?_) ?_
    rotate_left
    · obtain ⟨c0', c1', _, _⟩ := HC.out w' hf.only; go_simp
      try rfl
    try simp only [Act.put, List.setIfInBounds_toArray, List.set_cons_zero, List.set_cons_succ])
  refine lex_letter (f := 24) (args := ?_) rfl rfl (fun w' hf => ?_) (fun w' hf => ?_) ?_
  rotate_left
  · go_simp
    try rfl
  · exact ln_row (by have := hf.only.size; omega) HLn.out HLl.out (HM.out w' (HR.out.next (HBl.out w' hf.only)))
  try simp only [Act.put, List.setIfInBounds_toArray, List.set_cons_zero, List.set_cons_succ]
  refine lex_store rfl rfl (fun w' hf hB => ⟨_, ?_, (repl2 hB (.slice A l.length c) (.int .i64 size)).to (by rw [e1]; rfl)⟩) ?_
  · have gB := cells2 hB
    go_simp
  try simp only [Act.put]
  refine lex_nil fun W2 he => ?_
  have hblk : Blk W2 (w.heap.size + 1) 29 (unAgg (β 6)) := he.facts 7
  have hO2 : LnF W1.heap.size L size (β 6) W2 := (he.facts 6).2
  rw [e1] at hblk hO2
  have HO := Lib.hid (LnF.ownD (show LnF W1.heap.size L size (lineV A l.length c size) W2 from hO2) HLn.out)
  rw [HZ1.out] at HO
  have HB2 := Lib.hid (HBl.out W2 he.only)
  have e0 : W2.cell? ⟨w.heap.size + 1, 0, none⟩ = some (.slice A l.length c) := hblk.cell 0
  have e2 : W2.cell? ⟨w.heap.size + 1, 1, none⟩ = some (.int .i64 size) := hblk.cell 1
  clear he hβ hblk hO2 e1 HK HC HR1 HBl HZ1
  go_wp2_with fail
  exact bodyPost_ret (v := .agg #[.slice A l.length c, .int .i64 size]) (by simp [results, Tryd.results8, go_sem, e0, e2]) rfl ⟨A, c, rfl, HO.out, HB2.out⟩
set_option maxRecDepth 100000 in
set_option maxHeartbeats 8000000 in
theorem clean_any (A0 : Option Addr) (c0 : Nat) (l : List Cl) (size f t : Int) (hl : l.length ≤ 100000) (w : World) (hr : RCells w A0 l) :
    Calls Tryd.prog 9 #[lineV A0 l.length c0 size, .int .i64 f, .int .i64 t] w fun e w' => ∃ A c, e = .returned (lineV A l.length c size) ∧ OCells w' (w.heap.size + 2) (.slice A l.length c) (eachP (cleanC 32) l (loP f) (hiP l.length t - loP f)) ∧ Below w.heap.size w w' := by
  have hmf : ∀ (fn : Fn) (first cap : Array Value) (w : World), (Instr.makeFunc fn first cap).run Tryd.prog w = .ok (.func fn first cap) w := fun _ _ _ _ => rfl
  have HM := Lib.hid (fun W h => each_any 27 (Cl.val ⟨32, 0, false⟩) (cleanC 32) (fun args W => Tryd.call27 args W) A0 c0 l size f t hl W h (fun y _ V _ => clean1_any ⟨32, 0, false⟩ y V))
  have HLn : Hid (l.length = (eachP (cleanC 32) l (loP f) (hiP l.length t - loP f)).length) := Lib.hid (by
    by_cases h : loP f ≤ hiP l.length t
    · rw [eachP_len _ _ _ _ (by unfold hiP at *; omega)]
    · rw [show hiP l.length t - loP f = 0 from by omega, eachP_zero])
  have HLl := Lib.hid (show (eachP (cleanC 32) l (loP f) (hiP l.length t - loP f)).length ≤ 100000 from by rw [← HLn.out]; exact hl)
  have HEr := Lib.hid (fun W => erased_any W)
  have HR := Lib.hid hr
  clear hr
  generalize eachP (cleanC 32) l (loP f) (hiP l.length t - loP f) = L at *
  unfold lineV Cl.val at *
  have HK := Lib.hid (KL.start w #[.slice A0 l.length c0, .int .i64 size] #[.slice none 0 0, .int .i64 0])
  go_enter Tryd.func9, Tryd.ntmps9
  go_upto_region 1 with fail
  have HR1 := Lib.hid (HR.out.next HK.out.2.2)
  have hz1 : ((w.alloc (.cells #[.slice A0 l.length c0, .int .i64 size] 29)).alloc (.cells #[.slice none 0 0, .int .i64 0] 29)).heap.size = w.heap.size + 2 := by simp
  have HZ1 := Lib.hid hz1
  clear hz1
  generalize (w.alloc (.cells #[.slice A0 l.length c0, .int .i64 size] 29)).alloc (.cells #[.slice none 0 0, .int .i64 0] 29) = W1 at *
  have HC := Lib.hid (fun w' (h : Only [w.heap.size + 1] W1 w') => cells2 (h.blk HK.out.1 (by simp)))
  have HBl := Lib.hid (fun w' (h : Only [w.heap.size + 1] W1 w') => HK.out.2.2.trans (h.below (B := w.heap.size) HK.out.2.2.size (by simp)))
  refine wp_region_mix_lit (by kernel_rfl) [(3, .call (.agg #[.int .i32 32, .int .u8 0, .bool false])), (6, .letter (LnP l.length size) (LnF W1.heap.size L size)), (7, .store (w.heap.size + 1) 29 #[.slice none 0 0, .int .i64 0] (fun β => unAgg (β 6)))] (by kernel_rfl) (by kernel_rfl) (by kernel_rfl) (by rfl) (by simp [apartK] <;> omega) (by simp [startK]; exact HK.out.2.1) (by repeat (first | (refine List.forall_mem_cons.2 ⟨?_, ?_⟩; (first | exact trivial | exact lnF_stab _ _ _ _ (by simp [boxes, Kind.boxed]))) | (intro x hx; cases hx; done))) (⟨fun i => lineV none l.length l.length size, by repeat (first | (refine List.forall_mem_cons.2 ⟨?_, ?_⟩; (first | exact trivial | exact ⟨none, _, rfl, Nat.le_refl _⟩ | exact ⟨_, rfl, Nat.le_refl _⟩)) | (intro x hx; cases hx; done))⟩) (fun β hβ => ?_)
  obtain ⟨A, c, e1, _⟩ := (hβ 6 : LnP l.length size (β 6))
  unfold lineV at e1
  repeat (
    refine lex_val (v := ?_) rfl rfl (fun w' hf => ?_) ?_
    rotate_left
    · obtain ⟨c0', c1', _, _⟩ := HC.out w' hf.only; go_simp
      try rfl
    try simp only [Act.put, List.setIfInBounds_toArray, List.set_cons_zero, List.set_cons_succ])
  refine lex_call (f := 25) (args := ?_) rfl rfl (fun w' hf => ?_) (fun w' hf => ?_) ?_
  rotate_left
  · go_simp
    try rfl
  · exact HEr.out w'
  try simp only [Act.put, List.setIfInBounds_toArray, List.set_cons_zero, List.set_cons_succ]
  repeat (
    refine lex_val (v := ?_) rfl rfl (fun w' hf => ?_) ?_
    rotate_left
    · obtain ⟨c0', c1', _, _⟩ := HC.out w' hf.only; go_simp
      try rfl
    try simp only [Act.put, List.setIfInBounds_toArray, List.set_cons_zero, List.set_cons_succ])
  refine lex_letter (f := 24) (args := ?_) rfl rfl (fun w' hf => ?_) (fun w' hf => ?_) ?_
  rotate_left
  · go_simp
    try rfl
  · exact ln_row (by have := hf.only.size; omega) HLn.out HLl.out (HM.out w' (HR.out.next (HBl.out w' hf.only)))
  try simp only [Act.put, List.setIfInBounds_toArray, List.set_cons_zero, List.set_cons_succ]
  refine lex_store rfl rfl (fun w' hf hB => ⟨_, ?_, (repl2 hB (.slice A l.length c) (.int .i64 size)).to (by rw [e1]; rfl)⟩) ?_
  · have gB := cells2 hB
    go_simp
  try simp only [Act.put]
  refine lex_nil fun W2 he => ?_
  have hblk : Blk W2 (w.heap.size + 1) 29 (unAgg (β 6)) := he.facts 7
  have hO2 : LnF W1.heap.size L size (β 6) W2 := (he.facts 6).2
  rw [e1] at hblk hO2
  have HO := Lib.hid (LnF.ownD (show LnF W1.heap.size L size (lineV A l.length c size) W2 from hO2) HLn.out)
  rw [HZ1.out] at HO
  have HB2 := Lib.hid (HBl.out W2 he.only)
  have e0 : W2.cell? ⟨w.heap.size + 1, 0, none⟩ = some (.slice A l.length c) := hblk.cell 0
  have e2 : W2.cell? ⟨w.heap.size + 1, 1, none⟩ = some (.int .i64 size) := hblk.cell 1
  clear he hβ hblk hO2 e1 HK HC HR1 HBl HZ1
  go_wp2_with fail
  exact bodyPost_ret (v := .agg #[.slice A l.length c, .int .i64 size]) (by simp [results, Tryd.results9, go_sem, e0, e2]) rfl ⟨A, c, rfl, HO.out, HB2.out⟩
end Go.Proofs.YtbndnaohjloanaaDoor

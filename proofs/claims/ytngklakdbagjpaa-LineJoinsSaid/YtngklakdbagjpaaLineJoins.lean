/-
  LineJoins holds, whatever the input.
-/
import Derived.Test.YtngklakdbagjpaaFrame0
import Derived.Test.YtngklakdbagjpaaLineX
import Derived.Test.YtngklakdbagjpaaFrameL
namespace Go.Proofs.Ytngklakdbagjpaa.lineJoins
open Go.ChangeShapes Go.WideShapes Go.ChangeAt Go.RowKit
open Go.ChangeMaps (open_string)

/-- What is known of a world in the midst of such a law: the line's box, and the span's. -/
def KS (w : World) (x y : Array Value) (w' : World) : Prop := Blk w' w.heap.size 24 x ∧ Blk w' (w.heap.size + 1) 26 y ∧ Below w.heap.size w w'
theorem KS.start (w : World) (x y : Array Value) : KS w x y ((w.alloc (.cells x 24)).alloc (.cells y 26)) :=
  ⟨(Blk.new w _ x).alloc _, by have := Blk.new (w.alloc (.cells x 24)) 26 y; simpa using this, ((Below.refl _ _).alloc (Nat.le_refl _) _).alloc (by simp) _⟩
theorem KS.next {w W w' : World} {x y : Array Value} (h : KS w x y W) (hb : Below W.heap.size W w') : KS w x y w' := ⟨h.1.next hb, h.2.1.next hb, h.2.2.trans (hb.mono h.2.2.size)⟩
theorem KS.store1 {w W : World} {a b : Value} {y : Array Value} (h : KS w #[a, b] y W) (u v : Value) : KS w #[u, v] y ((W.setCell ⟨w.heap.size, 0, none⟩ u).setCell ⟨w.heap.size, 1, none⟩ v) :=
  ⟨(h.1.set_ 0 u).set_ 1 v, Blk.far (Blk.far h.2.1 (by simp) _) (by simp) _, (h.2.2.setCell (by simp) _).setCell (by simp) _⟩
theorem KS.all {w W : World} {a b c d e : Value} (h : KS w #[a, b] #[c, d, e] W) :
    W.cell? ⟨w.heap.size, 0, none⟩ = some a ∧ W.cell? ⟨w.heap.size, 1, none⟩ = some b ∧ W.cell? ⟨w.heap.size + 1, 0, none⟩ = some c ∧ W.cell? ⟨w.heap.size + 1, 1, none⟩ = some d ∧ W.cell? ⟨w.heap.size + 1, 2, none⟩ = some e :=
  ⟨h.1.cell 0, h.1.cell 1, h.2.1.cell 0, h.2.1.cell 1, h.2.1.cell 2⟩
theorem KS.fr {w W : World} {x y : Array Value} (h : KS w x y W) : W.frozen? ⟨w.heap.size, 0, none⟩ = false ∧ W.frozen? ⟨w.heap.size, 1, none⟩ = false := ⟨h.1.frozen 0, h.1.frozen 1⟩
theorem KS.only {w wr W : World} {x y : Array Value} (h : KS w x y wr) (ho : Only [] wr W) : KS w x y W := h.next ho.below0

set_option maxRecDepth 100000 in
set_option maxHeartbeats 16000000 in
theorem walk (A0 : Option Addr) (c0 : Nat) (l : List Cl) (size : Int) (hl : l.length ≤ maxLen) (hc0 : l.length ≤ c0) (f t q more : Int) (w : World) (hr : RCells w A0 l) :
    Calls Try.prog 7 #[lineV A0 l.length c0 size, .agg #[.int .i64 f, .int .i64 t, .int .i64 q], .int .i64 more] w fun e w' => e = .returned (.bool true) ∧ Below w.heap.size w w' := by
  have HAw := Lib.hid (fun W => awake_any W)
  have HOwn0 := Lib.hid (fun W h => lawOwn_any A0 c0 l size hl hc0 W h)
  have hm : (l.take 300).length ≤ 300 := by rw [List.length_take]; omega
  have HOwn1 := Lib.hid (fun A c hc W h => lawOwn_any A c (l.take 300) size (by unfold maxLen; omega) hc W h)
  have ht : (l.take 300).take 300 = l.take 300 := List.take_of_length_le hm
  rw [ht] at HOwn1
  have HR := Lib.hid hr
  clear hr ht
  have HCl := Lib.hid (fun n W => clamp_any n 0 400 W)
  obtain ⟨N1, hN1, hle1⟩ : ∃ N : Nat, clampP q 0 400 = N ∧ N ≤ 400 := ⟨(clampP q 0 400).toNat, by unfold clampP; split <;> (try split) <;> omega, by unfold clampP; split <;> (try split) <;> omega⟩
  obtain ⟨N2, hN2, hle2⟩ : ∃ N : Nat, clampP more 0 400 = N ∧ N ≤ 400 := ⟨(clampP more 0 400).toNat, by unfold clampP; split <;> (try split) <;> omega, by unfold clampP; split <;> (try split) <;> omega⟩
  have HN1 := Lib.hid hN1; have HN2 := Lib.hid hN2
  clear hN1 hN2
  have HIns := Lib.hid (fun (K : Int) (A : Option Addr) (c : Nat) (L' X : List Cl) (e : (l.take 300).length = L'.length) (hX : insP L' (loP f) (hiP (l.take 300).length t - loP f) (cntP (hiP (l.take 300).length t - loP f) K) = X) (W : World) (h : RCells W A L') => (by
    have := insert_any A c L' size f t K (by omega) W h
    rw [← e, hX] at this
    exact this : Calls Try.prog 10 #[lineV A (l.take 300).length c size, .int .i64 f, .int .i64 t, .int .i64 K] W fun e w' => ∃ g, W.heap.size ≤ g ∧ e = .returned (lineV (some ⟨g, 0, none⟩) (l.take 300).length (l.take 300).length size) ∧ Row w' g X ∧ Below W.heap.size W w'))
  have HDel := Lib.hid (fun (K : Int) (A : Option Addr) (c : Nat) (L' X : List Cl) (e : (l.take 300).length = L'.length) (hX : delP L' (loP f) (hiP (l.take 300).length t - loP f) (cntP (hiP (l.take 300).length t - loP f) K) = X) (W : World) (h : RCells W A L') => (by
    have := delete_any A c L' size f t K (by omega) W h
    rw [← e, hX] at this
    exact this : Calls Try.prog 11 #[lineV A (l.take 300).length c size, .int .i64 f, .int .i64 t, .int .i64 K] W fun e w' => ∃ g, W.heap.size ≤ g ∧ e = .returned (lineV (some ⟨g, 0, none⟩) (l.take 300).length (l.take 300).length size) ∧ Row w' g X ∧ Below W.heap.size W w'))
  have HSame := Lib.hid (fun (L' : List Cl) (h1 : (l.take 300).length = L'.length) (A B : Option Addr) (c d : Nat) (W : World) (hr : RCells W A L') (hs : RCells W B L') => (by
    have := same_any A B c d L' L' size size (by unfold maxLen; omega) (by unfold maxLen; omega) W hr hs
    rw [show decide (size = size ∧ L' = L') = true from by simp, ← h1] at this
    exact this : Calls Try.prog 31 #[lineV A (l.take 300).length c size, lineV B (l.take 300).length d size] W fun e w' => e = .returned (.bool true) ∧ Below W.heap.size W w'))
  have hMl : loP f + (hiP (l.take 300).length t - loP f) ≤ (l.take 300).length ∨ hiP (l.take 300).length t - loP f = 0 := by unfold hiP loP; omega
  unfold lineV at *
  generalize l.length = n0 at *
  generalize l.take 300 = L at *
  have HK := Lib.hid (KS.start w #[.slice A0 n0 c0, .int .i64 size] #[.int .i64 f, .int .i64 t, .int .i64 q])
  go_enter Try.func7, Try.ntmps7
  go_wp2_with fail
  refine (HAw.out _).mono ?_
  rintro e w1 ⟨rfl, hb1⟩
  have HK1 := Lib.hid (KS.next HK.out hb1)
  clear hb1
  obtain ⟨c0', c1', c2', c3', c4'⟩ := KS.all HK1.out
  go_wp2_with fail
  refine (HOwn0.out _ (HR.out.next HK1.out.2.2)).mono ?_
  rintro e w2 ⟨A, c, rfl, hown, hb2⟩
  have HK2 := Lib.hid (KS.store1 (KS.next HK1.out hb2) (.slice A L.length c) (.int .i64 size))
  have hcap := ocells_capX hown
  have HR2 := Lib.hid (OCells.reads (OCells.far (OCells.far hown (g := w.heap.size) (by have := HK1.out.2.2.size; omega) 0 (.slice A L.length c)) (g := w.heap.size) (by have := HK1.out.2.2.size; omega) 1 (.int .i64 size)))
  clear c0' c1' c2' c3' c4'
  obtain ⟨c0', c1', _, _, _⟩ := KS.all (KS.next HK1.out hb2)
  obtain ⟨f0, f1⟩ := KS.fr (KS.next HK1.out hb2)
  clear hown hb2
  obtain ⟨_, _, c2', c3', c4'⟩ := KS.all HK2.out
  go_wp2_with fail
  clear c0' c1' f0 f1
  generalize (w2.setCell ⟨w.heap.size, 0, none⟩ (.slice A L.length c)).setCell ⟨w.heap.size, 1, none⟩ (.int .i64 size) = W2 at *
  refine (HCl.out q _).mono ?_
  rintro e w3 ⟨rfl, rfl⟩
  rw [HN1.out]
  go_wp2_with fail
  refine (HCl.out more _).mono ?_
  rintro e w3 ⟨rfl, rfl⟩
  rw [HN2.out]
  clear c2' c3' c4'
  go_wp2_with fail
  generalize loP f = F at *
  generalize hiP L.length t - F = M at *
  have hK1 : cntP M N1 ≤ M := by unfold cntP; omega
  have hK2 : cntP M N2 ≤ M := by unfold cntP; omega
  have hsum : cntP M ((N1 : Int) + N2) = min (cntP M N1 + cntP M N2) M := cnt_add M N1 N2
  have hl1 : (insP L F M (cntP M N1)).length = L.length := by
    rcases hMl with h | h
    · exact insP_len L F M _ h hK1
    · subst h; rw [show cntP 0 N1 = 0 from by omega, insP_none]
  have hi : insP (insP L F M (cntP M N1)) F M (cntP M N2) = insP L F M (cntP M ((N1 : Int) + N2)) := by
    rw [hsum]
    rcases hMl with h | h
    · exact ins_ins L F M _ _ h hK1 hK2
    · subst h; rw [show cntP 0 N1 = 0 from by omega, show cntP 0 N2 = 0 from by omega]; simp [insP_none]
  have hl2 : (insP L F M (cntP M ((N1 : Int) + N2))).length = L.length := by
    rcases hMl with h | h
    · exact insP_len L F M _ h (by unfold cntP; omega)
    · subst h; rw [show cntP 0 ((N1 : Int) + N2) = 0 from by unfold cntP; omega, insP_none]
  have hl3 : (delP L F M (cntP M N1)).length = L.length := by
    rcases hMl with h | h
    · exact delP_len L F M _ h hK1
    · subst h; rw [show cntP 0 N1 = 0 from by omega, delP_none]
  have hd : delP (delP L F M (cntP M N1)) F M (cntP M N2) = delP L F M (cntP M ((N1 : Int) + N2)) := by
    rw [hsum]
    rcases hMl with h | h
    · exact del_del L F M _ _ h hK1 hK2
    · subst h; rw [show cntP 0 N1 = 0 from by omega, show cntP 0 N2 = 0 from by omega]; simp [delP_none]
  have hl4 : (delP L F M (cntP M ((N1 : Int) + N2))).length = L.length := by
    rcases hMl with h | h
    · exact delP_len L F M _ h (by unfold cntP; omega)
    · subst h; rw [show cntP 0 ((N1 : Int) + N2) = 0 from by unfold cntP; omega, delP_none]
  have HI1 := Lib.hid (fun A c => HIns.out N1 A c L _ rfl rfl)
  have HI2 := Lib.hid (fun A c => HIns.out N2 A c _ _ hl1.symm hi)
  have HI3 := Lib.hid (fun A c => HIns.out ((N1 : Int) + N2) A c L _ rfl rfl)
  have HD1 := Lib.hid (fun A c => HDel.out N1 A c L _ rfl rfl)
  have HD2 := Lib.hid (fun A c => HDel.out N2 A c _ _ hl3.symm hd)
  have HD3 := Lib.hid (fun A c => HDel.out ((N1 : Int) + N2) A c L _ rfl rfl)
  have HSa := Lib.hid (HSame.out _ hl2.symm)
  have HSb := Lib.hid (HSame.out _ hl4.symm)
  clear hi hd hsum hK1 hK2 hMl HIns HDel HSame HAw HCl HOwn0 HR HK HK1
  generalize insP L F M (cntP M N1) = I1 at *
  generalize insP L F M (cntP M ((N1 : Int) + N2)) = I2 at *
  generalize delP L F M (cntP M N1) = D1 at *
  generalize delP L F M (cntP M ((N1 : Int) + N2)) = D2 at *
  have HC := Lib.hid (fun w' (h : Only [] W2 w') => KS.all (KS.only HK2.out h))
  refine wp_region_mix_lit (by kernel_rfl) [(1, .letter (LnP L.length size) (LnF W2.heap.size L size)), (7, .letter (LnP L.length size) (LnF W2.heap.size I1 size)), (13, .letter (LnP L.length size) (LnF W2.heap.size I2 size)), (14, .alloc 15 24 #[.slice none 0 0, .int .i64 0] (fun β => unAgg (β 13))), (15, .init 14)] (by kernel_rfl) (by kernel_rfl) (by kernel_rfl) (by rfl) (by simp [apartK] <;> omega) (by simp [startK]) (by repeat (first | (refine List.forall_mem_cons.2 ⟨?_, ?_⟩; (first | exact trivial | exact lnF_stab _ _ _ _ (by simp [boxes, Kind.boxed]))) | (intro x hx; cases hx; done))) (⟨fun i => if i = 14 then .pointer (some ⟨W2.heap.size, 0, none⟩) else lineV none L.length L.length size, by repeat (first | (refine List.forall_mem_cons.2 ⟨?_, ?_⟩; (first | exact trivial | exact ⟨none, _, rfl, Nat.le_refl _⟩ | exact ⟨_, rfl, Nat.le_refl _⟩)) | (intro x hx; cases hx; done))⟩) (fun β hβ => ?_)
  obtain ⟨A1, c1, e1, _⟩ := (hβ 1 : LnP L.length size (β 1))
  obtain ⟨A2, c2, e2, _⟩ := (hβ 7 : LnP L.length size (β 7))
  obtain ⟨A3, c3, e3, _⟩ := (hβ 13 : LnP L.length size (β 13))
  unfold lineV at e1 e2 e3
  repeat (
    refine lex_val (v := ?_) rfl rfl (fun w' hf => ?_) ?_
    rotate_left
    · obtain ⟨c0', c1', c2', c3', c4'⟩ := HC.out w' hf.only; go_simp
      try rfl
    try simp only [Act.put, List.setIfInBounds_toArray, List.set_cons_zero, List.set_cons_succ])
  refine lex_letter (f := 9) (args := ?_) rfl rfl (fun w' hf => ?_) (fun w' hf => ?_) ?_
  rotate_left
  · go_simp
    try rfl
  · exact ln_own (by have := hf.only.size; omega) rfl (HOwn1.out A c hcap w' (HR2.out.next hf.only.below0))
  try simp only [Act.put, List.setIfInBounds_toArray, List.set_cons_zero, List.set_cons_succ]
  repeat (
    refine lex_val (v := ?_) rfl rfl (fun w' hf => ?_) ?_
    rotate_left
    · obtain ⟨c0', c1', c2', c3', c4'⟩ := HC.out w' hf.only; go_simp
      try rfl
    try simp only [Act.put, List.setIfInBounds_toArray, List.set_cons_zero, List.set_cons_succ])
  refine lex_letter (f := 10) (args := ?_) rfl rfl (fun w' hf => ?_) (fun w' hf => ?_) ?_
  rotate_left
  · go_simp
    try rfl
  · exact ln_row hf.only.size hl1.symm (by omega) (HI1.out A1 c1 w' (LnF.reads (A := A1) (c := c1) rfl (by have := hf.got 1 _ _ rfl (by kernel_rfl); rw [e1] at this; exact this)))
  try simp only [Act.put, List.setIfInBounds_toArray, List.set_cons_zero, List.set_cons_succ]
  repeat (
    refine lex_val (v := ?_) rfl rfl (fun w' hf => ?_) ?_
    rotate_left
    · obtain ⟨c0', c1', c2', c3', c4'⟩ := HC.out w' hf.only; go_simp
      try rfl
    try simp only [Act.put, List.setIfInBounds_toArray, List.set_cons_zero, List.set_cons_succ])
  refine lex_letter (f := 10) (args := ?_) rfl rfl (fun w' hf => ?_) (fun w' hf => ?_) ?_
  rotate_left
  · go_simp
    try rfl
  · exact ln_row hf.only.size hl2.symm (by omega) (HI2.out A2 c2 w' (LnF.reads (A := A2) (c := c2) hl1.symm (by have := hf.got 7 _ _ rfl (by kernel_rfl); rw [e2] at this; exact this)))
  try simp only [Act.put, List.setIfInBounds_toArray, List.set_cons_zero, List.set_cons_succ]
  refine lex_alloc rfl rfl (fun w' => ?_) ?_
  · go_simp
  try simp only [Act.put, List.setIfInBounds_toArray, List.set_cons_zero, List.set_cons_succ]
  refine lex_init rfl rfl rfl (fun b w' hb hf hB => ⟨_, ?_, (repl2 hB (.slice A3 L.length c3) (.int .i64 size)).to (by rw [e3]; rfl)⟩) ?_
  · have gB := cells2 hB
    go_simp
  try simp only [Act.put]
  refine lex_nil fun w3 he => ?_
  obtain ⟨ba, hba, _, hblk⟩ := he.facts 14
  replace hblk : Blk w3 ba 24 (unAgg (β 13)) := hblk
  rw [e3] at hblk
  have hRa := LnF.reads (A := A3) (c := c3) hl2.symm (by have := (he.facts 13).2; rw [e3] at this; exact this)
  have HK3 := Lib.hid (And.intro (KS.only HK2.out he.only) (And.intro (HR2.out.next he.only.below0) (And.intro (show Blk w3 ba 24 #[.slice A3 L.length c3, .int .i64 size] from hblk) hRa)))
  rw [hba]
  clear he hβ hblk hRa e1 e2 e3 HK2 HR2 HC
  go_wp2_with fail
  have HC := Lib.hid (fun w' (h : Only [] w3 w') => KS.all (KS.only HK3.out.1 h))
  refine wp_region_mix_lit (by kernel_rfl) [(1, .letter (LnP L.length size) (LnF w3.heap.size L size)), (7, .letter (LnP L.length size) (LnF w3.heap.size D1 size)), (13, .letter (LnP L.length size) (LnF w3.heap.size D2 size)), (14, .alloc 15 24 #[.slice none 0 0, .int .i64 0] (fun β => unAgg (β 13))), (15, .init 14)] (by kernel_rfl) (by kernel_rfl) (by kernel_rfl) (by rfl) (by simp [apartK] <;> omega) (by simp [startK]) (by repeat (first | (refine List.forall_mem_cons.2 ⟨?_, ?_⟩; (first | exact trivial | exact lnF_stab _ _ _ _ (by simp [boxes, Kind.boxed]))) | (intro x hx; cases hx; done))) (⟨fun i => if i = 14 then .pointer (some ⟨w3.heap.size, 0, none⟩) else lineV none L.length L.length size, by repeat (first | (refine List.forall_mem_cons.2 ⟨?_, ?_⟩; (first | exact trivial | exact ⟨none, _, rfl, Nat.le_refl _⟩ | exact ⟨_, rfl, Nat.le_refl _⟩)) | (intro x hx; cases hx; done))⟩) (fun β hβ => ?_)
  obtain ⟨A1, c1, e1, _⟩ := (hβ 1 : LnP L.length size (β 1))
  obtain ⟨A2, c2, e2, _⟩ := (hβ 7 : LnP L.length size (β 7))
  obtain ⟨A4, c4, e4, _⟩ := (hβ 13 : LnP L.length size (β 13))
  unfold lineV at e1 e2 e4
  repeat (
    refine lex_val (v := ?_) rfl rfl (fun w' hf => ?_) ?_
    rotate_left
    · obtain ⟨c0', c1', c2', c3', c4'⟩ := HC.out w' hf.only; go_simp
      try rfl
    try simp only [Act.put, List.setIfInBounds_toArray, List.set_cons_zero, List.set_cons_succ])
  refine lex_letter (f := 9) (args := ?_) rfl rfl (fun w' hf => ?_) (fun w' hf => ?_) ?_
  rotate_left
  · go_simp
    try rfl
  · exact ln_own (by have := hf.only.size; omega) rfl (HOwn1.out A c hcap w' (HK3.out.2.1.next hf.only.below0))
  try simp only [Act.put, List.setIfInBounds_toArray, List.set_cons_zero, List.set_cons_succ]
  repeat (
    refine lex_val (v := ?_) rfl rfl (fun w' hf => ?_) ?_
    rotate_left
    · obtain ⟨c0', c1', c2', c3', c4'⟩ := HC.out w' hf.only; go_simp
      try rfl
    try simp only [Act.put, List.setIfInBounds_toArray, List.set_cons_zero, List.set_cons_succ])
  refine lex_letter (f := 11) (args := ?_) rfl rfl (fun w' hf => ?_) (fun w' hf => ?_) ?_
  rotate_left
  · go_simp
    try rfl
  · exact ln_row hf.only.size hl3.symm (by omega) (HD1.out A1 c1 w' (LnF.reads (A := A1) (c := c1) rfl (by have := hf.got 1 _ _ rfl (by kernel_rfl); rw [e1] at this; exact this)))
  try simp only [Act.put, List.setIfInBounds_toArray, List.set_cons_zero, List.set_cons_succ]
  repeat (
    refine lex_val (v := ?_) rfl rfl (fun w' hf => ?_) ?_
    rotate_left
    · obtain ⟨c0', c1', c2', c3', c4'⟩ := HC.out w' hf.only; go_simp
      try rfl
    try simp only [Act.put, List.setIfInBounds_toArray, List.set_cons_zero, List.set_cons_succ])
  refine lex_letter (f := 11) (args := ?_) rfl rfl (fun w' hf => ?_) (fun w' hf => ?_) ?_
  rotate_left
  · go_simp
    try rfl
  · exact ln_row hf.only.size hl4.symm (by omega) (HD2.out A2 c2 w' (LnF.reads (A := A2) (c := c2) hl3.symm (by have := hf.got 7 _ _ rfl (by kernel_rfl); rw [e2] at this; exact this)))
  try simp only [Act.put, List.setIfInBounds_toArray, List.set_cons_zero, List.set_cons_succ]
  refine lex_alloc rfl rfl (fun w' => ?_) ?_
  · go_simp
  try simp only [Act.put, List.setIfInBounds_toArray, List.set_cons_zero, List.set_cons_succ]
  refine lex_init rfl rfl rfl (fun b w' hb hf hB => ⟨_, ?_, (repl2 hB (.slice A4 L.length c4) (.int .i64 size)).to (by rw [e4]; rfl)⟩) ?_
  · have gB := cells2 hB
    go_simp
  try simp only [Act.put]
  refine lex_nil fun w4 he => ?_
  obtain ⟨bb, hbb, _, hblk⟩ := he.facts 14
  replace hblk : Blk w4 bb 24 (unAgg (β 13)) := hblk
  rw [e4] at hblk
  have hRb := LnF.reads (A := A4) (c := c4) hl4.symm (by have := (he.facts 13).2; rw [e4] at this; exact this)
  have HK4 := Lib.hid (And.intro (KS.only HK3.out.1 he.only) (And.intro (HK3.out.2.1.next he.only.below0) (And.intro (HK3.out.2.2.1.next he.only.below0) (And.intro (HK3.out.2.2.2.next he.only.below0) (And.intro (show Blk w4 bb 24 #[.slice A4 L.length c4, .int .i64 size] from hblk) hRb)))))
  rw [hbb]
  clear he hβ hblk hRb e1 e2 e4 HK3 HC
  go_wp2_with fail
  have HC := Lib.hid (fun w' (h : Only [] w4 w') => And.intro (KS.all (KS.only HK4.out.1 h)) (And.intro (cells2 (HK4.out.2.2.1.next h.below0)) (cells2 (HK4.out.2.2.2.2.1.next h.below0))))
  have hw : IntKind.i64.wrap ((N1 : Int) + N2) = (N1 : Int) + N2 := IntWalk.i64_in _ (by omega)
  refine wp_region_mix_lit (by kernel_rfl) [(2, .letter (LnP L.length size) (LnF w4.heap.size L size)), (10, .letter (LnP L.length size) (LnF w4.heap.size I2 size)), (11, .call (.bool true)), (15, .letter (LnP L.length size) (LnF w4.heap.size L size)), (23, .letter (LnP L.length size) (LnF w4.heap.size D2 size)), (24, .call (.bool true))] (by kernel_rfl) (by kernel_rfl) (by kernel_rfl) (by rfl) (by simp [apartK] <;> omega) (by simp [startK]) (by repeat (first | (refine List.forall_mem_cons.2 ⟨?_, ?_⟩; (first | exact trivial | exact lnF_stab _ _ _ _ (by simp [boxes, Kind.boxed]))) | (intro x hx; cases hx; done))) (⟨fun i => lineV none L.length L.length size, by repeat (first | (refine List.forall_mem_cons.2 ⟨?_, ?_⟩; (first | exact trivial | exact ⟨none, _, rfl, Nat.le_refl _⟩ | exact ⟨_, rfl, Nat.le_refl _⟩)) | (intro x hx; cases hx; done))⟩) (fun β hβ => ?_)
  obtain ⟨A1, c1, e1, _⟩ := (hβ 2 : LnP L.length size (β 2))
  obtain ⟨A2, c2, e2, _⟩ := (hβ 10 : LnP L.length size (β 10))
  obtain ⟨A5, c5, e5, _⟩ := (hβ 15 : LnP L.length size (β 15))
  obtain ⟨A6, c6, e6, _⟩ := (hβ 23 : LnP L.length size (β 23))
  unfold lineV at e1 e2 e5 e6
  repeat (
    refine lex_val (v := ?_) rfl rfl (fun w' hf => ?_) ?_
    rotate_left
    · obtain ⟨⟨c0', c1', c2', c3', c4'⟩, ⟨d0, d1, _, _⟩, d2, d3, _, _⟩ := HC.out w' hf.only; go_simp
      try rfl
    try simp only [Act.put, List.setIfInBounds_toArray, List.set_cons_zero, List.set_cons_succ])
  refine lex_letter (f := 9) (args := ?_) rfl rfl (fun w' hf => ?_) (fun w' hf => ?_) ?_
  rotate_left
  · go_simp
    try rfl
  · exact ln_own (by have := hf.only.size; omega) rfl (HOwn1.out A c hcap w' (HK4.out.2.1.next hf.only.below0))
  try simp only [Act.put, List.setIfInBounds_toArray, List.set_cons_zero, List.set_cons_succ]
  repeat (
    refine lex_val (v := ?_) rfl rfl (fun w' hf => ?_) ?_
    rotate_left
    · obtain ⟨⟨c0', c1', c2', c3', c4'⟩, ⟨d0, d1, _, _⟩, d2, d3, _, _⟩ := HC.out w' hf.only; go_simp
      try rfl
    try simp only [Act.put, List.setIfInBounds_toArray, List.set_cons_zero, List.set_cons_succ])
  refine lex_letter (f := 10) (args := ?_) rfl rfl (fun w' hf => ?_) (fun w' hf => ?_) ?_
  rotate_left
  · go_simp
    try rfl
  · exact ln_row hf.only.size hl2.symm (by omega) (HI3.out A1 c1 w' (LnF.reads (A := A1) (c := c1) rfl (by have := hf.got 2 _ _ rfl (by kernel_rfl); rw [e1] at this; exact this)))
  try simp only [Act.put, List.setIfInBounds_toArray, List.set_cons_zero, List.set_cons_succ]
  repeat (
    refine lex_val (v := ?_) rfl rfl (fun w' hf => ?_) ?_
    rotate_left
    · obtain ⟨⟨c0', c1', c2', c3', c4'⟩, ⟨d0, d1, _, _⟩, d2, d3, _, _⟩ := HC.out w' hf.only; go_simp
      try rfl
    try simp only [Act.put, List.setIfInBounds_toArray, List.set_cons_zero, List.set_cons_succ])
  refine lex_call (f := 31) (args := ?_) rfl rfl (fun w' hf => ?_) (fun w' hf => ?_) ?_
  rotate_left
  · go_simp
    try rfl
  · exact HSa.out A3 A2 c3 c2 w' (HK4.out.2.2.2.1.next hf.only.below0) (LnF.reads (A := A2) (c := c2) hl2.symm (by have := hf.got 10 _ _ rfl (by kernel_rfl); rw [e2] at this; exact this))
  try simp only [Act.put, List.setIfInBounds_toArray, List.set_cons_zero, List.set_cons_succ]
  repeat (
    refine lex_val (v := ?_) rfl rfl (fun w' hf => ?_) ?_
    rotate_left
    · obtain ⟨⟨c0', c1', c2', c3', c4'⟩, ⟨d0, d1, _, _⟩, d2, d3, _, _⟩ := HC.out w' hf.only; go_simp
      try rfl
    try simp only [Act.put, List.setIfInBounds_toArray, List.set_cons_zero, List.set_cons_succ])
  refine lex_letter (f := 9) (args := ?_) rfl rfl (fun w' hf => ?_) (fun w' hf => ?_) ?_
  rotate_left
  · go_simp
    try rfl
  · exact ln_own (by have := hf.only.size; omega) rfl (HOwn1.out A c hcap w' (HK4.out.2.1.next hf.only.below0))
  try simp only [Act.put, List.setIfInBounds_toArray, List.set_cons_zero, List.set_cons_succ]
  repeat (
    refine lex_val (v := ?_) rfl rfl (fun w' hf => ?_) ?_
    rotate_left
    · obtain ⟨⟨c0', c1', c2', c3', c4'⟩, ⟨d0, d1, _, _⟩, d2, d3, _, _⟩ := HC.out w' hf.only; go_simp
      try rfl
    try simp only [Act.put, List.setIfInBounds_toArray, List.set_cons_zero, List.set_cons_succ])
  refine lex_letter (f := 11) (args := ?_) rfl rfl (fun w' hf => ?_) (fun w' hf => ?_) ?_
  rotate_left
  · go_simp
    try rfl
  · exact ln_row hf.only.size hl4.symm (by omega) (HD3.out A5 c5 w' (LnF.reads (A := A5) (c := c5) rfl (by have := hf.got 15 _ _ rfl (by kernel_rfl); rw [e5] at this; exact this)))
  try simp only [Act.put, List.setIfInBounds_toArray, List.set_cons_zero, List.set_cons_succ]
  repeat (
    refine lex_val (v := ?_) rfl rfl (fun w' hf => ?_) ?_
    rotate_left
    · obtain ⟨⟨c0', c1', c2', c3', c4'⟩, ⟨d0, d1, _, _⟩, d2, d3, _, _⟩ := HC.out w' hf.only; go_simp
      try rfl
    try simp only [Act.put, List.setIfInBounds_toArray, List.set_cons_zero, List.set_cons_succ])
  refine lex_call (f := 31) (args := ?_) rfl rfl (fun w' hf => ?_) (fun w' hf => ?_) ?_
  rotate_left
  · go_simp
    try rfl
  · exact HSb.out A4 A6 c4 c6 w' (HK4.out.2.2.2.2.2.next hf.only.below0) (LnF.reads (A := A6) (c := c6) hl4.symm (by have := hf.got 23 _ _ rfl (by kernel_rfl); rw [e6] at this; exact this))
  try simp only [Act.put, List.setIfInBounds_toArray, List.set_cons_zero, List.set_cons_succ]
  repeat (
    refine lex_val (v := ?_) rfl rfl (fun w' hf => ?_) ?_
    rotate_left
    · obtain ⟨⟨c0', c1', c2', c3', c4'⟩, ⟨d0, d1, _, _⟩, d2, d3, _, _⟩ := HC.out w' hf.only; go_simp
      try rfl
    try simp only [Act.put, List.setIfInBounds_toArray, List.set_cons_zero, List.set_cons_succ])
  refine lex_nil fun w5 he => ?_
  have hb5 := (KS.only HK4.out.1 he.only).2.2
  clear he hβ HC HK4
  go_wp2_with fail
  go_ret
  exact ⟨rfl, hb5⟩

/-- What the walk gives, for every argument and every world that holds the table. -/
theorem contract (H : Type) (enc : TypeId × Value → H) (W : World) (base : Nat) (args : Array Value) (ds gs : List (DataW H)) (before : List MemPlace)
    (hval : ∀ (j : Nat) t v, Try.f7.params[j]? = some t → args[j]? = some v → Value.okWide Try.prog W .any base t v)
    (hW : DataW.Whole enc Try.prog Try.f7.params.toList Rows.lineJoinsSpec.vars false W args.toList ds gs before) (_hL : laidMetH Try.prog Rows.lineJoinsRow.laid W)
    (hreach : (DataW.weightsEach Try.prog (Try.f7.params.toList ++ []) (ds ++ gs)).all (· ≤ reachBytes) = true) :
    Calls Try.prog 7 args W fun e W' => ∃ v, e = .returned v ∧ Rows.lineJoinsSpec.post enc Try.prog Try.f7 false true false false W args v W' := by
  have hW' := hW
  clear _hL
  have hlts : ∀ x ∈ before, x.block < W.heap.size := fun x hx => hW'.lt x hx
  obtain ⟨p, q, hA0, hV, rfl, hfz, hnd⟩ := hW
  have hA : DataW.TrodAll enc Try.prog W 0 (fun _ => true) true Try.f7.params.toList args.toList ds p := hA0
  rw [Try.params7] at hA hval hreach
  obtain ⟨v0, vs0, d0, ds0, pp0, qq0, hargs, rfl, rfl, h0, rr0⟩ := trodAll_cons hA
  obtain ⟨v1, vs1, d1, ds1, pp1, qq1, rfl, rfl, rfl, h1, rr1⟩ := trodAll_cons rr0
  obtain ⟨v2, vs2, d2, ds2, pp2, qq2, rfl, rfl, rfl, h2, rr2⟩ := trodAll_cons rr1
  obtain ⟨rfl, rfl, rfl⟩ := trodAll_nil rr2
  obtain rfl : args = #[v0, v1, v2] := by cases args; simp_all
  obtain ⟨rfl, rfl⟩ := trodVars_none hV
  obtain ⟨b0, cap0, l0, z0, rfl, hm0, hc0, hri0⟩ := line_in (hval 0 24 v0 rfl rfl) h0
  obtain ⟨f1, t1, q1, rfl⟩ := span_in (hval 1 26 v1 rfl rfl) h1
  obtain ⟨a2, rfl, rfl, rfl, w2⟩ := open_int Try.underlying3 (hval 2 3 v2 rfl rfl) h2
  clear hA0
  refine (walk b0 cap0 l0 z0 hm0 hc0 f1 t1 q1 a2 W hri0).mono fun e W' ⟨he, hb⟩ => ?_
  subst he
  exact ⟨_, rfl, post_law laidOut (by kernel_rfl) (by kernel_rfl) rfl hW' rfl hb⟩

theorem laid_met (os : Os) : laidMet Try.prog Rows.lineJoinsRow.laid ((laidWorld os).forCall (fun _ _ => 0) ⟨#[], #[Value.agg #[.slice none 0 0, .int .i64 0], Value.agg #[.int .i64 0, .int .i64 0, .int .i64 0], Value.int .i64 0], []⟩).memory :=
  laidMet_of_run' 8 (by kernel_rfl) (by kernel_rfl)
theorem reads (os : Os) {H : Type} (enc : TypeId × Value → H) : ∃ places, DataW.whole enc Try.prog ((laidWorld os).forCall (fun _ _ => 0) ⟨#[], #[Value.agg #[.slice none 0 0, .int .i64 0], Value.agg #[.int .i64 0, .int .i64 0, .int .i64 0], Value.int .i64 0], []⟩).memory Try.f7.params.toList Rows.lineJoinsSpec.vars false (#[Value.agg #[.slice none 0 0, .int .i64 0], Value.agg #[.int .i64 0, .int .i64 0, .int .i64 0], Value.int .i64 0] : Array Value).toList 8 = some ([.agg [.nil, .lit (.int .i64 0)], .agg [.lit (.int .i64 0), .lit (.int .i64 0), .lit (.int .i64 0)], .lit (.int .i64 0)], [], places) :=
  ⟨[], by kernel_rfl⟩

set_option maxRecDepth 100000 in
theorem lifted (os : Os) (started : os.Started) (H : Type) (enc : TypeId × Value → H) (F : Stop.Interp) :
    ReturnsInHanded {} Try.checked os 7 .any ((OpenSpec.ofChange Rows.lineJoinsSpec).preRow enc Try.prog Try.f7 Rows.lineJoinsRow.domain false Rows.lineJoinsRow.laid) (((OpenSpec.ofChange Rows.lineJoinsSpec).at F).post enc Try.prog Try.f7 false true false false) := by
  obtain ⟨places, hx⟩ := reads os enc
  refine returnsInHanded_of_row (C := Try.checked) (s := OpenSpec.ofChange Rows.lineJoinsSpec) own started (by kernel_rfl) Try.func7
    (witness_row_at (enc := enc) (C := Try.checked) false (laidWorld os) #[Value.agg #[.slice none 0 0, .int .i64 0], Value.agg #[.int .i64 0, .int .i64 0, .int .i64 0], Value.int .i64 0] rfl (by kernel_rfl) (by kernel_rfl) (by kernel_rfl)
      (OpenSpec.preRow_of_cond 8 hx (by kernel_rfl) (fun k hk => by cases hk) (by kernel_rfl) (laid_met os))) ?_
  intro W base args ds gs before hval hW _ _ hreach hL _ _
  exact contract H enc W base args ds gs before hval hW hL hreach

theorem said : Rows.LineJoinsSaid :=
  OpenClaim.holds_of_cond 7 Try.f7 rfl rfl rfl rfl rfl rfl rfl ⟨rfl, rfl, rfl, rfl, rfl⟩ rfl rfl rfl rfl rfl (by kernel_rfl) Try.func7 (by kernel_rfl)
    (of_decide_eq_true (by kernel_rfl)) (by unfold Func.isWrapper; first | (rw [if_pos (by decide +kernel)]; kernel_rfl) | (rw [if_neg (by decide +kernel)]; exact ⟨rfl, rfl⟩))
    (fun os started H enc _ F => by rw [OpenClaim.pre_eq_preRow]; exact lifted os started H enc F)

#print axioms said
end Go.Proofs.Ytngklakdbagjpaa.lineJoins

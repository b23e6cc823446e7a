/-
  LineBack holds, whatever the input.
-/
import Derived.Test.YtngklakdbagjpaaFrame0
import Derived.Test.YtngklakdbagjpaaLineY
import Derived.Test.YtngklakdbagjpaaLineW
import Derived.Test.YtngklakdbagjpaaFrameL
namespace Go.Proofs.Ytngklakdbagjpaa.lineBack
open Go.ChangeShapes Go.WideShapes Go.ChangeAt Go.RowKit
open Go.ChangeMaps (open_string)

/-- What is known of a world in the midst of such a law: the line's box, and the span's. -/
def KS (w : World) (x y : Array Value) (w' : World) : Prop := Blk w' w.heap.size 24 x ∧ Blk w' (w.heap.size + 1) 26 y ∧ Below w.heap.size w w'
theorem KS.start (w : World) (x y : Array Value) : KS w x y ((w.alloc (.cells x 24)).alloc (.cells y 26)) :=
  ⟨(Blk.new w _ x).alloc _, by have := Blk.new (w.alloc (.cells x 24)) 26 y; simpa using this, ((Below.refl _ _).alloc (Nat.le_refl _) _).alloc (by simp) _⟩
theorem KS.next {w W w' : World} {x y : Array Value} (h : KS w x y W) (hb : Below W.heap.size W w') : KS w x y w' := ⟨h.1.next hb, h.2.1.next hb, h.2.2.trans (hb.mono h.2.2.size)⟩
theorem KS.store1 {w W : World} {a b : Value} {y : Array Value} (h : KS w #[a, b] y W) (u v : Value) : KS w #[u, v] y ((W.setCell ⟨w.heap.size, 0, none⟩ u).setCell ⟨w.heap.size, 1, none⟩ v) :=
  ⟨(h.1.set_ 0 u).set_ 1 v, Blk.far (Blk.far h.2.1 (by simp) _) (by simp) _, (h.2.2.setCell (by simp) _).setCell (by simp) _⟩
theorem KS.all {w W : World} {a b c d e : Value} (h : KS w #[a, b] #[c, d, e] W) :
    W.cell? ⟨w.heap.size, 0, none⟩ = some a ∧ W.cell? ⟨w.heap.size, 1, none⟩ = some b ∧ W.cell? ⟨w.heap.size + 1, 0, none⟩ = some c ∧ W.cell? ⟨w.heap.size + 1, 1, none⟩ = some d ∧ W.cell? ⟨w.heap.size + 1, 2, none⟩ = some e :=
  ⟨h.1.cell 0, h.1.cell 1, h.2.1.cell 0, h.2.1.cell 1, h.2.1.cell 2⟩
theorem KS.fr {w W : World} {x y : Array Value} (h : KS w x y W) : W.frozen? ⟨w.heap.size, 0, none⟩ = false ∧ W.frozen? ⟨w.heap.size, 1, none⟩ = false := ⟨h.1.frozen 0, h.1.frozen 1⟩
theorem KS.only {w wr W : World} {x y : Array Value} (h : KS w x y wr) (ho : Only [] wr W) : KS w x y W := h.next ho.below0

theorem back_lemma (L : List Cl) (F T K : Nat) (hT : T ≤ L.length) (hK : K ≤ T - F) : updP (deedC (fun _ => blankC) (loP ((firstP F T + (T - F) - K : Nat) : Int)) (hiP L.length ((firstP F T + (T - F) : Nat) : Int))) L L.length = delP (insP L F (T - F) K) F (T - F) K := by
  by_cases h : F < T
  · rw [← back_upd L F (T - F) K (by omega) hK]
    have e1 : loP ((firstP F T + (T - F) - K : Nat) : Int) = F + (T - F - K) := by unfold loP firstP; rw [if_pos h]; omega
    have e2 : hiP L.length ((firstP F T + (T - F) : Nat) : Int) = F + (T - F) := by unfold hiP firstP; rw [if_pos h]; omega
    rw [e1, e2]
    rfl
  · obtain rfl : K = 0 := by omega
    have e0 : T - F = 0 := by omega
    rw [e0, insP_none, delP_none]
    exact updP_eq rfl fun j h1 => by
      unfold deedC firstP hiP
      rw [if_neg h, if_neg (by omega)]
      exact get_self rfl h1

set_option maxRecDepth 100000 in
set_option maxHeartbeats 16000000 in
theorem walk (A0 : Option Addr) (c0 : Nat) (l : List Cl) (size : Int) (hl : l.length ≤ maxLen) (hc0 : l.length ≤ c0) (f t q : Int) (w : World) (hr : RCells w A0 l) :
    Calls Try.prog 4 #[lineV A0 l.length c0 size, .agg #[.int .i64 f, .int .i64 t, .int .i64 q]] w fun e w' => e = .returned (.bool true) ∧ Below w.heap.size w w' := by
  have HAw := Lib.hid (fun W => awake_any W)
  have HOwn0 := Lib.hid (fun W h => lawOwn_any A0 c0 l size hl hc0 W h)
  have hm : (l.take 300).length ≤ 300 := by rw [List.length_take]; omega
  have HOwn1 := Lib.hid (fun A c hc W h => lawOwn_any A c (l.take 300) size (by unfold maxLen; omega) hc W h)
  have ht : (l.take 300).take 300 = l.take 300 := List.take_of_length_le hm
  rw [ht] at HOwn1
  have HR := Lib.hid hr
  clear hr ht
  have hT : hiP (l.take 300).length t ≤ (l.take 300).length := by unfold hiP; omega
  have hK : cntP (hiP (l.take 300).length t - loP f) q ≤ hiP (l.take 300).length t - loP f := by unfold cntP; omega
  have hl1 : (l.take 300).length = (insP (l.take 300) (loP f) (hiP (l.take 300).length t - loP f) (cntP (hiP (l.take 300).length t - loP f) q)).length := by rw [← mov_ins _ _ _ _ hT hK, updP_len]
  have hl2 : (l.take 300).length = (delP (insP (l.take 300) (loP f) (hiP (l.take 300).length t - loP f) (cntP (hiP (l.take 300).length t - loP f) q)) (loP f) (hiP (l.take 300).length t - loP f) (cntP (hiP (l.take 300).length t - loP f) q)).length := by rw [← back_lemma _ _ _ _ hT hK, updP_len]
  have HIns := Lib.hid (fun A c W h => insert_any A c (l.take 300) size f t q (by omega) W h)
  have HDel := Lib.hid (fun A c W h => (by
    have := delete_any A c _ size f t q (by rw [← hl1]; omega) W h
    rw [← hl1] at this
    exact this : Calls Try.prog 11 #[lineV A (l.take 300).length c size, .int .i64 f, .int .i64 t, .int .i64 q] W fun e w' => ∃ g, W.heap.size ≤ g ∧ e = .returned (lineV (some ⟨g, 0, none⟩) (l.take 300).length (l.take 300).length size) ∧ Row w' g (delP (insP (l.take 300) (loP f) (hiP (l.take 300).length t - loP f) (cntP (hiP (l.take 300).length t - loP f) q)) (loP f) (hiP (l.take 300).length t - loP f) (cntP (hiP (l.take 300).length t - loP f) q)) ∧ Below W.heap.size W w'))
  have HCt := Lib.hid (fun A c W => count_any A (l.take 300).length c size f t (by omega) W)
  have HCl := Lib.hid (fun W => (by
    have := clamp_any q 0 (hiP (l.take 300).length t - loP f : Nat) W
    rw [show clampP q 0 (hiP (l.take 300).length t - loP f : Nat) = (cntP (hiP (l.take 300).length t - loP f) q : Nat) from by unfold clampP cntP; split <;> (try split) <;> omega] at this
    exact this : Calls Try.prog 16 #[.int .i64 q, .int .i64 0, .int .i64 (hiP (l.take 300).length t - loP f : Nat)] W fun e w' => e = .returned (.int .i64 (cntP (hiP (l.take 300).length t - loP f) q : Nat)) ∧ W = w'))
  have HEa := Lib.hid (fun A c W h => (by
    have := refEach_any 1 (fun _ => blankC) blankC (.slice none 0 0) A c (l.take 300) size ((firstP (loP f) (hiP (l.take 300).length t) + (hiP (l.take 300).length t - loP f) - cntP (hiP (l.take 300).length t - loP f) q : Nat) : Int) ((firstP (loP f) (hiP (l.take 300).length t) + (hiP (l.take 300).length t - loP f) : Nat) : Int) (by omega) W h (fun y W' _ => refFill_any y blankC _ W')
    rw [back_lemma _ _ _ _ hT hK] at this
    exact this : Calls Try.prog 17 #[.int .i64 1, lineV A (l.take 300).length c size, .int .i64 ((firstP (loP f) (hiP (l.take 300).length t) + (hiP (l.take 300).length t - loP f) - cntP (hiP (l.take 300).length t - loP f) q : Nat) : Int), .int .i64 ((firstP (loP f) (hiP (l.take 300).length t) + (hiP (l.take 300).length t - loP f) : Nat) : Int), blankC.val, .slice none 0 0] W fun e w' => ∃ A c, e = .returned (lineV A (l.take 300).length c size) ∧ OCells w' (W.heap.size + 3) (.slice A (l.take 300).length c) (delP (insP (l.take 300) (loP f) (hiP (l.take 300).length t - loP f) (cntP (hiP (l.take 300).length t - loP f) q)) (loP f) (hiP (l.take 300).length t - loP f) (cntP (hiP (l.take 300).length t - loP f) q)) ∧ Below W.heap.size W w'))
  have HSame := Lib.hid (fun (L' : List Cl) (h1 : (l.take 300).length = L'.length) (A B : Option Addr) (c d : Nat) (W : World) (hr : RCells W A L') (hs : RCells W B L') => (by
    have := refSame_any A B c d L' L' size size (by unfold maxLen; omega) (by unfold maxLen; omega) W hr hs
    rw [show decide (size = size ∧ L' = L') = true from by simp, ← h1] at this
    exact this : Calls Try.prog 12 #[lineV A (l.take 300).length c size, lineV B (l.take 300).length d size] W fun e w' => e = .returned (.bool true) ∧ Below W.heap.size W w'))
  have hb1 : firstP (loP f) (hiP (l.take 300).length t) ≤ 300 := by unfold firstP; split <;> omega
  have hb2 : hiP (l.take 300).length t - loP f ≤ 300 := by omega
  unfold lineV blankC Cl.val at *
  generalize l.length = n0 at *
  generalize l.take 300 = L at *
  generalize delP (insP L (loP f) (hiP L.length t - loP f) (cntP (hiP L.length t - loP f) q)) (loP f) (hiP L.length t - loP f) (cntP (hiP L.length t - loP f) q) = D1 at *
  generalize insP L (loP f) (hiP L.length t - loP f) (cntP (hiP L.length t - loP f) q) = I1 at *
  generalize firstP (loP f) (hiP L.length t) = fst at *
  generalize cntP (hiP L.length t - loP f) q = K at *
  generalize hiP L.length t - loP f = M at *
  have HW1 : Hid (IntKind.i64.wrap ((fst : Int) + (M : Int)) = ((fst + M : Nat) : Int)) := Lib.hid (by rw [IntWalk.i64_in _ (by omega)]; omega)
  have HW2 : Hid (IntKind.i64.wrap (((fst + M : Nat) : Int) - (K : Int)) = ((fst + M - K : Nat) : Int)) := Lib.hid (by rw [IntWalk.i64_in _ (by omega)]; omega)
  generalize fst + M - K = r at *
  generalize fst + M = s at *
  have HSa := Lib.hid (HSame.out _ hl2)
  have HL1 := Lib.hid hl1; have HL2 := Lib.hid hl2
  clear hl1 hl2 HSame hT hK
  have HK := Lib.hid (KS.start w #[.slice A0 n0 c0, .int .i64 size] #[.int .i64 f, .int .i64 t, .int .i64 q])
  go_enter Try.func4, Try.ntmps4
  go_wp2_with fail
  refine (HAw.out _).mono ?_
  rintro e w1 ⟨rfl, hb1⟩
  have HK1 := Lib.hid (KS.next HK.out hb1)
  clear hb1
  obtain ⟨c0', c1', c2', c3', c4'⟩ := KS.all HK1.out
  go_wp2_with fail
  refine (HOwn0.out _ (HR.out.next HK1.out.2.2)).mono ?_
  rintro e w2 ⟨A, c, rfl, hown, hb2⟩
  have HK2 := Lib.hid (KS.store1 (KS.next HK1.out hb2) (.slice A L.length c) (.int .i64 size))
  have hcap := ocells_capX hown
  have HR2 := Lib.hid (OCells.reads (OCells.far (OCells.far hown (g := w.heap.size) (by have := HK1.out.2.2.size; omega) 0 (.slice A L.length c)) (g := w.heap.size) (by have := HK1.out.2.2.size; omega) 1 (.int .i64 size)))
  clear c0' c1' c2' c3' c4'
  obtain ⟨c0', c1', _, _, _⟩ := KS.all (KS.next HK1.out hb2)
  obtain ⟨f0, f1⟩ := KS.fr (KS.next HK1.out hb2)
  clear hown hb2
  go_wp2_with fail
  clear c0' c1' f0 f1
  generalize (w2.setCell ⟨w.heap.size, 0, none⟩ (.slice A L.length c)).setCell ⟨w.heap.size, 1, none⟩ (.int .i64 size) = W2 at *
  clear HAw HOwn0 HR HK HK1
  obtain ⟨c0', c1', c2', c3', c4'⟩ := KS.all HK2.out
  go_wp2_with fail
  clear c0' c1' c2' c3' c4'
  have HC := Lib.hid (fun w' (h : Only [] W2 w') => KS.all (KS.only HK2.out h))
  refine wp_region_mix_lit (by kernel_rfl) [(1, .letter (LnP L.length size) (LnF W2.heap.size L size)), (8, .letter (LnP L.length size) (LnF W2.heap.size I1 size)), (15, .letter (LnP L.length size) (LnF W2.heap.size D1 size)), (16, .alloc 17 24 #[.slice none 0 0, .int .i64 0] (fun β => unAgg (β 15))), (17, .init 16)] (by kernel_rfl) (by kernel_rfl) (by kernel_rfl) (by rfl) (by simp [apartK] <;> omega) (by simp [startK]) (by repeat (first | (refine List.forall_mem_cons.2 ⟨?_, ?_⟩; (first | exact trivial | exact lnF_stab _ _ _ _ (by simp [boxes, Kind.boxed]))) | (intro x hx; cases hx; done))) (⟨fun i => if i = 16 then .pointer (some ⟨W2.heap.size, 0, none⟩) else lineV none L.length L.length size, by repeat (first | (refine List.forall_mem_cons.2 ⟨?_, ?_⟩; (first | exact trivial | exact ⟨none, _, rfl, Nat.le_refl _⟩ | exact ⟨_, rfl, Nat.le_refl _⟩)) | (intro x hx; cases hx; done))⟩) (fun β hβ => ?_)
  obtain ⟨A1, c1, e1, _⟩ := (hβ 1 : LnP L.length size (β 1))
  obtain ⟨A2, c2, e2, _⟩ := (hβ 8 : LnP L.length size (β 8))
  obtain ⟨A3, c3, e3, _⟩ := (hβ 15 : LnP L.length size (β 15))
  unfold lineV at e1 e2 e3
  repeat (
    refine lex_val (v := ?_) rfl rfl (fun w' hf => ?_) ?_
    rotate_left
    · obtain ⟨c0', c1', c2', c3', c4'⟩ := HC.out w' hf.only; go_simp
      try rfl
    try simp only [Act.put, List.setIfInBounds_toArray, List.set_cons_zero, List.set_cons_succ])
  refine lex_letter (f := 9) (args := ?_) rfl rfl (fun w' hf => ?_) (fun w' hf => ?_) ?_
  rotate_left
  · go_simp
    try rfl
  · exact ln_own (by have := hf.only.size; omega) rfl (HOwn1.out A c hcap w' (HR2.out.next hf.only.below0))
  try simp only [Act.put, List.setIfInBounds_toArray, List.set_cons_zero, List.set_cons_succ]
  repeat (
    refine lex_val (v := ?_) rfl rfl (fun w' hf => ?_) ?_
    rotate_left
    · obtain ⟨c0', c1', c2', c3', c4'⟩ := HC.out w' hf.only; go_simp
      try rfl
    try simp only [Act.put, List.setIfInBounds_toArray, List.set_cons_zero, List.set_cons_succ])
  refine lex_letter (f := 10) (args := ?_) rfl rfl (fun w' hf => ?_) (fun w' hf => ?_) ?_
  rotate_left
  · go_simp
    try rfl
  · exact ln_row hf.only.size HL1.out (by rw [← HL1.out]; omega) (HIns.out A1 c1 w' (LnF.reads (A := A1) (c := c1) rfl (by have := hf.got 1 _ _ rfl (by kernel_rfl); rw [e1] at this; exact this)))
  try simp only [Act.put, List.setIfInBounds_toArray, List.set_cons_zero, List.set_cons_succ]
  repeat (
    refine lex_val (v := ?_) rfl rfl (fun w' hf => ?_) ?_
    rotate_left
    · obtain ⟨c0', c1', c2', c3', c4'⟩ := HC.out w' hf.only; go_simp
      try rfl
    try simp only [Act.put, List.setIfInBounds_toArray, List.set_cons_zero, List.set_cons_succ])
  refine lex_letter (f := 11) (args := ?_) rfl rfl (fun w' hf => ?_) (fun w' hf => ?_) ?_
  rotate_left
  · go_simp
    try rfl
  · exact ln_row hf.only.size HL2.out (by rw [← HL2.out]; omega) (HDel.out A2 c2 w' (LnF.reads (A := A2) (c := c2) HL1.out (by have := hf.got 8 _ _ rfl (by kernel_rfl); rw [e2] at this; exact this)))
  try simp only [Act.put, List.setIfInBounds_toArray, List.set_cons_zero, List.set_cons_succ]
  refine lex_alloc rfl rfl (fun w' => ?_) ?_
  · go_simp
  try simp only [Act.put, List.setIfInBounds_toArray, List.set_cons_zero, List.set_cons_succ]
  refine lex_init rfl rfl rfl (fun b w' hb hf hB => ⟨_, ?_, (repl2 hB (.slice A3 L.length c3) (.int .i64 size)).to (by rw [e3]; rfl)⟩) ?_
  · have gB := cells2 hB
    go_simp
  try simp only [Act.put]
  refine lex_nil fun w3 he => ?_
  obtain ⟨ba, hba, _, hka⟩ := he.facts 16
  replace hka : Blk w3 ba 24 (unAgg (β 15)) := hka
  rw [e3] at hka
  have hRa := LnF.reads (A := A3) (c := c3) HL2.out (by have := (he.facts 15).2; rw [e3] at this; exact this)
  have HK3 := Lib.hid (And.intro (KS.only HK2.out he.only) (And.intro (show Blk w3 ba 24 #[.slice A3 L.length c3, .int .i64 size] from hka) (And.intro (HR2.out.next he.only.below0) hRa)))
  rw [hba]
  clear he hβ hka hRa e1 e2 e3 HC HK2 HR2 HIns HDel HOwn1
  obtain ⟨c0', c1', c2', c3', c4'⟩ := KS.all HK3.out.1
  go_wp2_with fail
  refine (HCt.out A c _).mono ?_
  rintro e w4 ⟨rfl, hb4⟩
  have HK4 := Lib.hid (And.intro (KS.next HK3.out.1 hb4) (And.intro (HK3.out.2.1.next hb4) (And.intro (HK3.out.2.2.1.next hb4) (HK3.out.2.2.2.next hb4))))
  clear c0' c1' c2' c3' c4' hb4 HK3
  obtain ⟨c0', c1', c2', c3', c4'⟩ := KS.all HK4.out.1
  go_wp2_with fail
  refine (HCl.out _).mono ?_
  rintro e w5 ⟨rfl, rfl⟩
  clear c0' c1' c2' c3' c4'
  go_wp2_with fail
  have hw1 := HW1.out; have hw2 := HW2.out
  have HC := Lib.hid (fun w' (h : Only [] w4 w') => And.intro (KS.all (KS.only HK4.out.1 h)) (cells2 (HK4.out.2.1.next h.below0)))
  refine wp_region_mix_lit (by kernel_rfl) [(11, .letter (LnP L.length size) (LnF w4.heap.size D1 size)), (12, .call (.bool true))] (by kernel_rfl) (by kernel_rfl) (by kernel_rfl) (by rfl) (by simp [apartK] <;> omega) (by simp [startK]) (by repeat (first | (refine List.forall_mem_cons.2 ⟨?_, ?_⟩; (first | exact trivial | exact lnF_stab _ _ _ _ (by simp [boxes, Kind.boxed]))) | (intro x hx; cases hx; done))) (⟨fun i => lineV none L.length L.length size, by repeat (first | (refine List.forall_mem_cons.2 ⟨?_, ?_⟩; (first | exact trivial | exact ⟨none, _, rfl, Nat.le_refl _⟩ | exact ⟨_, rfl, Nat.le_refl _⟩)) | (intro x hx; cases hx; done))⟩) (fun β hβ => ?_)
  obtain ⟨A5, c5, e1, _⟩ := (hβ 11 : LnP L.length size (β 11))
  unfold lineV at e1
  repeat (
    refine lex_val (v := ?_) rfl rfl (fun w' hf => ?_) ?_
    rotate_left
    · obtain ⟨⟨c0', c1', c2', c3', c4'⟩, d0, d1, _, _⟩ := HC.out w' hf.only; go_simp
      try rfl
    try simp only [Act.put, List.setIfInBounds_toArray, List.set_cons_zero, List.set_cons_succ])
  refine lex_letter (f := 17) (args := ?_) rfl rfl (fun w' hf => ?_) (fun w' hf => ?_) ?_
  rotate_left
  · go_simp
    try rfl
  · exact ln_own (Nat.le_trans hf.only.size (Nat.le_add_right _ 3)) HL2.out (HEa.out A c w' (HK4.out.2.2.1.next hf.only.below0))
  try simp only [Act.put, List.setIfInBounds_toArray, List.set_cons_zero, List.set_cons_succ]
  refine lex_call (f := 12) (args := ?_) rfl rfl (fun w' hf => ?_) (fun w' hf => ?_) ?_
  rotate_left
  · go_simp
    try rfl
  · exact HSa.out A3 A5 c3 c5 w' (HK4.out.2.2.2.next hf.only.below0) (LnF.reads (A := A5) (c := c5) HL2.out (by have := hf.got 11 _ _ rfl (by kernel_rfl); rw [e1] at this; exact this))
  try simp only [Act.put, List.setIfInBounds_toArray, List.set_cons_zero, List.set_cons_succ]
  repeat (
    refine lex_val (v := ?_) rfl rfl (fun w' hf => ?_) ?_
    rotate_left
    · go_simp
      try rfl
    try simp only [Act.put, List.setIfInBounds_toArray, List.set_cons_zero, List.set_cons_succ])
  refine lex_nil fun w5 he => ?_
  have hb5 := (KS.only HK4.out.1 he.only).2.2
  clear he hβ HC HK4 hw1 hw2
  go_wp2_with fail
  go_ret
  exact ⟨rfl, hb5⟩

/-- What the walk gives, for every argument and every world that holds the table. -/
theorem contract (H : Type) (enc : TypeId × Value → H) (W : World) (base : Nat) (args : Array Value) (ds gs : List (DataW H)) (before : List MemPlace)
    (hval : ∀ (j : Nat) t v, Try.f4.params[j]? = some t → args[j]? = some v → Value.okWide Try.prog W .any base t v)
    (hW : DataW.Whole enc Try.prog Try.f4.params.toList Rows.lineBackSpec.vars false W args.toList ds gs before) (_hL : laidMetH Try.prog Rows.lineBackRow.laid W)
    (hreach : (DataW.weightsEach Try.prog (Try.f4.params.toList ++ []) (ds ++ gs)).all (· ≤ reachBytes) = true) :
    Calls Try.prog 4 args W fun e W' => ∃ v, e = .returned v ∧ Rows.lineBackSpec.post enc Try.prog Try.f4 false true false false W args v W' := by
  have hW' := hW
  clear _hL
  have hlts : ∀ x ∈ before, x.block < W.heap.size := fun x hx => hW'.lt x hx
  obtain ⟨p, q, hA0, hV, rfl, hfz, hnd⟩ := hW
  have hA : DataW.TrodAll enc Try.prog W 0 (fun _ => true) true Try.f4.params.toList args.toList ds p := hA0
  rw [Try.params4] at hA hval hreach
  obtain ⟨v0, vs0, d0, ds0, pp0, qq0, hargs, rfl, rfl, h0, rr0⟩ := trodAll_cons hA
  obtain ⟨v1, vs1, d1, ds1, pp1, qq1, rfl, rfl, rfl, h1, rr1⟩ := trodAll_cons rr0
  obtain ⟨rfl, rfl, rfl⟩ := trodAll_nil rr1
  obtain rfl : args = #[v0, v1] := by cases args; simp_all
  obtain ⟨rfl, rfl⟩ := trodVars_none hV
  obtain ⟨b0, cap0, l0, z0, rfl, hm0, hc0, hri0⟩ := line_in (hval 0 24 v0 rfl rfl) h0
  obtain ⟨f1, t1, q1, rfl⟩ := span_in (hval 1 26 v1 rfl rfl) h1
  clear hA0
  refine (walk b0 cap0 l0 z0 hm0 hc0 f1 t1 q1 W hri0).mono fun e W' ⟨he, hb⟩ => ?_
  subst he
  exact ⟨_, rfl, post_law laidOut (by kernel_rfl) (by kernel_rfl) rfl hW' rfl hb⟩

theorem laid_met (os : Os) : laidMet Try.prog Rows.lineBackRow.laid ((laidWorld os).forCall (fun _ _ => 0) ⟨#[], #[Value.agg #[.slice none 0 0, .int .i64 0], Value.agg #[.int .i64 0, .int .i64 0, .int .i64 0]], []⟩).memory :=
  laidMet_of_run' 8 (by kernel_rfl) (by kernel_rfl)
theorem reads (os : Os) {H : Type} (enc : TypeId × Value → H) : ∃ places, DataW.whole enc Try.prog ((laidWorld os).forCall (fun _ _ => 0) ⟨#[], #[Value.agg #[.slice none 0 0, .int .i64 0], Value.agg #[.int .i64 0, .int .i64 0, .int .i64 0]], []⟩).memory Try.f4.params.toList Rows.lineBackSpec.vars false (#[Value.agg #[.slice none 0 0, .int .i64 0], Value.agg #[.int .i64 0, .int .i64 0, .int .i64 0]] : Array Value).toList 8 = some ([.agg [.nil, .lit (.int .i64 0)], .agg [.lit (.int .i64 0), .lit (.int .i64 0), .lit (.int .i64 0)]], [], places) :=
  ⟨[], by kernel_rfl⟩

set_option maxRecDepth 100000 in
theorem lifted (os : Os) (started : os.Started) (H : Type) (enc : TypeId × Value → H) (F : Stop.Interp) :
    ReturnsInHanded {} Try.checked os 4 .any ((OpenSpec.ofChange Rows.lineBackSpec).preRow enc Try.prog Try.f4 Rows.lineBackRow.domain false Rows.lineBackRow.laid) (((OpenSpec.ofChange Rows.lineBackSpec).at F).post enc Try.prog Try.f4 false true false false) := by
  obtain ⟨places, hx⟩ := reads os enc
  refine returnsInHanded_of_row (C := Try.checked) (s := OpenSpec.ofChange Rows.lineBackSpec) own started (by kernel_rfl) Try.func4
    (witness_row_at (enc := enc) (C := Try.checked) false (laidWorld os) #[Value.agg #[.slice none 0 0, .int .i64 0], Value.agg #[.int .i64 0, .int .i64 0, .int .i64 0]] rfl (by kernel_rfl) (by kernel_rfl) (by kernel_rfl)
      (OpenSpec.preRow_of_cond 8 hx (by kernel_rfl) (fun k hk => by cases hk) (by kernel_rfl) (laid_met os))) ?_
  intro W base args ds gs before hval hW _ _ hreach hL _ _
  exact contract H enc W base args ds gs before hval hW hL hreach

theorem said : Rows.LineBackSaid :=
  OpenClaim.holds_of_cond 4 Try.f4 rfl rfl rfl rfl rfl rfl rfl ⟨rfl, rfl, rfl, rfl, rfl⟩ rfl rfl rfl rfl rfl (by kernel_rfl) Try.func4 (by kernel_rfl)
    (of_decide_eq_true (by kernel_rfl)) (by unfold Func.isWrapper; first | (rw [if_pos (by decide +kernel)]; kernel_rfl) | (rw [if_neg (by decide +kernel)]; exact ⟨rfl, rfl⟩))
    (fun os started H enc _ F => by rw [OpenClaim.pre_eq_preRow]; exact lifted os started H enc F)

#print axioms said
end Go.Proofs.Ytngklakdbagjpaa.lineBack

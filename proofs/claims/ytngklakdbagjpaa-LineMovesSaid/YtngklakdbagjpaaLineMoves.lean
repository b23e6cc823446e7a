/-
  LineMoves holds, whatever the input.
-/
import Derived.Test.YtngklakdbagjpaaFrame0
import Derived.Test.YtngklakdbagjpaaLineW
import Derived.Test.YtngklakdbagjpaaFrameL
namespace Go.Proofs.Ytngklakdbagjpaa.lineMoves
open Go.ChangeShapes Go.WideShapes Go.ChangeAt Go.RowKit
open Go.ChangeMaps (open_string)

/-- What is known of a world in the midst of such a law: the line's box, and the span's. -/
def KS (w : World) (x y : Array Value) (w' : World) : Prop := Blk w' w.heap.size 24 x ∧ Blk w' (w.heap.size + 1) 26 y ∧ Below w.heap.size w w'
theorem KS.start (w : World) (x y : Array Value) : KS w x y ((w.alloc (.cells x 24)).alloc (.cells y 26)) :=
  ⟨(Blk.new w _ x).alloc _, by have := Blk.new (w.alloc (.cells x 24)) 26 y; simpa using this, ((Below.refl _ _).alloc (Nat.le_refl _) _).alloc (by simp) _⟩
theorem KS.next {w W w' : World} {x y : Array Value} (h : KS w x y W) (hb : Below W.heap.size W w') : KS w x y w' := ⟨h.1.next hb, h.2.1.next hb, h.2.2.trans (hb.mono h.2.2.size)⟩
theorem KS.store1 {w W : World} {a b : Value} {y : Array Value} (h : KS w #[a, b] y W) (u v : Value) : KS w #[u, v] y ((W.setCell ⟨w.heap.size, 0, none⟩ u).setCell ⟨w.heap.size, 1, none⟩ v) :=
  ⟨(h.1.set_ 0 u).set_ 1 v, Blk.far (Blk.far h.2.1 (by simp) _) (by simp) _, (h.2.2.setCell (by simp) _).setCell (by simp) _⟩
theorem KS.all {w W : World} {a b c d e : Value} (h : KS w #[a, b] #[c, d, e] W) :
    W.cell? ⟨w.heap.size, 0, none⟩ = some a ∧ W.cell? ⟨w.heap.size, 1, none⟩ = some b ∧ W.cell? ⟨w.heap.size + 1, 0, none⟩ = some c ∧ W.cell? ⟨w.heap.size + 1, 1, none⟩ = some d ∧ W.cell? ⟨w.heap.size + 1, 2, none⟩ = some e :=
  ⟨h.1.cell 0, h.1.cell 1, h.2.1.cell 0, h.2.1.cell 1, h.2.1.cell 2⟩
theorem KS.fr {w W : World} {x y : Array Value} (h : KS w x y W) : W.frozen? ⟨w.heap.size, 0, none⟩ = false ∧ W.frozen? ⟨w.heap.size, 1, none⟩ = false := ⟨h.1.frozen 0, h.1.frozen 1⟩
theorem KS.only {w wr W : World} {x y : Array Value} (h : KS w x y wr) (ho : Only [] wr W) : KS w x y W := h.next ho.below0

set_option maxRecDepth 100000 in
set_option maxHeartbeats 16000000 in
theorem walk (A0 : Option Addr) (c0 : Nat) (l : List Cl) (size : Int) (hl : l.length ≤ maxLen) (hc0 : l.length ≤ c0) (f t q : Int) (w : World) (hr : RCells w A0 l) :
    Calls Try.prog 3 #[lineV A0 l.length c0 size, .agg #[.int .i64 f, .int .i64 t, .int .i64 q]] w fun e w' => e = .returned (.bool true) ∧ Below w.heap.size w w' := by
  have HAw := Lib.hid (fun W => awake_any W)
  have HOwn0 := Lib.hid (fun W h => lawOwn_any A0 c0 l size hl hc0 W h)
  have hm : (l.take 300).length ≤ 300 := by rw [List.length_take]; omega
  have HOwn1 := Lib.hid (fun A c hc W h => lawOwn_any A c (l.take 300) size (by unfold maxLen; omega) hc W h)
  have ht : (l.take 300).take 300 = l.take 300 := List.take_of_length_le hm
  rw [ht] at HOwn1
  have HR := Lib.hid hr
  clear hr ht
  have HIns := Lib.hid (fun A c W h => insert_any A c (l.take 300) size f t q (by omega) W h)
  have HDel := Lib.hid (fun A c W h => delete_any A c (l.take 300) size f t q (by omega) W h)
  have HRI := Lib.hid (fun A c W h => refInsert_any A c (l.take 300) size f t q (by omega) W h)
  have HRD := Lib.hid (fun A c W h => refDelete_any A c (l.take 300) size f t q (by omega) W h)
  have HSame := Lib.hid (fun (L' : List Cl) (h1 : (l.take 300).length = L'.length) (A B : Option Addr) (c d : Nat) (W : World) (hr : RCells W A L') (hs : RCells W B L') => (by
    have := refSame_any A B c d L' L' size size (by unfold maxLen; omega) (by unfold maxLen; omega) W hr hs
    rw [show decide (size = size ∧ L' = L') = true from by simp, ← h1] at this
    exact this : Calls Try.prog 12 #[lineV A (l.take 300).length c size, lineV B (l.take 300).length d size] W fun e w' => e = .returned (.bool true) ∧ Below W.heap.size W w'))
  have hT : hiP (l.take 300).length t ≤ (l.take 300).length := by unfold hiP; omega
  have hK : cntP (hiP (l.take 300).length t - loP f) q ≤ hiP (l.take 300).length t - loP f := by unfold cntP; omega
  have hl1 : (l.take 300).length = (insP (l.take 300) (loP f) (hiP (l.take 300).length t - loP f) (cntP (hiP (l.take 300).length t - loP f) q)).length := by rw [← mov_ins _ _ _ _ hT hK, updP_len]
  have hl2 : (l.take 300).length = (delP (l.take 300) (loP f) (hiP (l.take 300).length t - loP f) (cntP (hiP (l.take 300).length t - loP f) q)).length := by rw [← mov_del _ _ _ _ hT hK, updP_len]
  clear hT hK
  unfold lineV at *
  generalize l.length = n0 at *
  generalize l.take 300 = L at *
  generalize insP L (loP f) (hiP L.length t - loP f) (cntP (hiP L.length t - loP f) q) = I1 at *
  generalize delP L (loP f) (hiP L.length t - loP f) (cntP (hiP L.length t - loP f) q) = D1 at *
  have HSa := Lib.hid (HSame.out _ hl1)
  have HSb := Lib.hid (HSame.out _ hl2)
  have HSc := Lib.hid (HSame.out L rfl)
  have HL1 := Lib.hid hl1; have HL2 := Lib.hid hl2
  clear hl1 hl2 HSame
  have HK := Lib.hid (KS.start w #[.slice A0 n0 c0, .int .i64 size] #[.int .i64 f, .int .i64 t, .int .i64 q])
  go_enter Try.func3, Try.ntmps3
  go_wp2_with fail
  refine (HAw.out _).mono ?_
  rintro e w1 ⟨rfl, hb1⟩
  have HK1 := Lib.hid (KS.next HK.out hb1)
  clear hb1
  obtain ⟨c0', c1', c2', c3', c4'⟩ := KS.all HK1.out
  go_wp2_with fail
  refine (HOwn0.out _ (HR.out.next HK1.out.2.2)).mono ?_
  rintro e w2 ⟨A, c, rfl, hown, hb2⟩
  have HK2 := Lib.hid (KS.store1 (KS.next HK1.out hb2) (.slice A L.length c) (.int .i64 size))
  have hcap := ocells_capX hown
  have HR2 := Lib.hid (OCells.reads (OCells.far (OCells.far hown (g := w.heap.size) (by have := HK1.out.2.2.size; omega) 0 (.slice A L.length c)) (g := w.heap.size) (by have := HK1.out.2.2.size; omega) 1 (.int .i64 size)))
  clear c0' c1' c2' c3' c4'
  obtain ⟨c0', c1', _, _, _⟩ := KS.all (KS.next HK1.out hb2)
  obtain ⟨f0, f1⟩ := KS.fr (KS.next HK1.out hb2)
  clear hown hb2
  go_wp2_with fail
  clear c0' c1' f0 f1
  generalize (w2.setCell ⟨w.heap.size, 0, none⟩ (.slice A L.length c)).setCell ⟨w.heap.size, 1, none⟩ (.int .i64 size) = W2 at *
  obtain ⟨c0', c1', c2', c3', c4'⟩ := KS.all HK2.out
  go_wp2_with fail
  refine (HOwn1.out A c hcap _ HR2.out).mono ?_
  rintro e w3 ⟨A1, c1, rfl, hown, hb3⟩
  have HR3 := Lib.hid (OCells.reads (World.ownsRow.alloc (show w3.ownsRow _ _ _ _ _ _ from hown) (.cells #[.slice A1 L.length c1, .int .i64 size] 24)))
  have HB3 := Lib.hid (Blk.new w3 24 #[.slice A1 L.length c1, .int .i64 size])
  have HK3 := Lib.hid (KS.next (KS.next HK2.out hb3) (al w3 (.cells #[.slice A1 L.length c1, .int .i64 size] 24)))
  have HR3l := Lib.hid ((HR2.out.next hb3).next (al w3 (.cells #[.slice A1 L.length c1, .int .i64 size] 24)))
  clear hown hb3 c0' c1' c2' c3' c4' HAw HOwn0 HOwn1 HR HK HK1
  go_wp2_with fail
  generalize w3.heap.size = bi at *
  generalize w3.alloc (.cells #[.slice A1 L.length c1, .int .i64 size] 24) = W3 at *
  have HC := Lib.hid (fun w' (h : Only [] W3 w') => And.intro (KS.all (KS.only HK3.out h)) (cells2 (HB3.out.next h.below0)))
  refine wp_region_mix_lit (by kernel_rfl) [(7, .letter (LnP L.length size) (LnF W3.heap.size I1 size)), (15, .letter (LnP L.length size) (LnF W3.heap.size D1 size)), (16, .alloc 18 24 #[.slice none 0 0, .int .i64 0] (fun β => unAgg (β 7))), (17, .alloc 19 24 #[.slice none 0 0, .int .i64 0] (fun β => unAgg (β 15))), (18, .init 16), (19, .init 17)] (by kernel_rfl) (by kernel_rfl) (by kernel_rfl) (by rfl) (by simp [apartK] <;> omega) (by simp [startK]) (by repeat (first | (refine List.forall_mem_cons.2 ⟨?_, ?_⟩; (first | exact trivial | exact lnF_stab _ _ _ _ (by simp [boxes, Kind.boxed]))) | (intro x hx; cases hx; done))) (⟨fun i => if i = 7 then lineV none L.length L.length size else if i = 15 then lineV none L.length L.length size else .pointer (some ⟨W3.heap.size, 0, none⟩), by repeat (first | (refine List.forall_mem_cons.2 ⟨?_, ?_⟩; (first | exact trivial | exact ⟨none, _, rfl, Nat.le_refl _⟩ | exact ⟨_, rfl, Nat.le_refl _⟩)) | (intro x hx; cases hx; done))⟩) (fun β hβ => ?_)
  obtain ⟨Aa, ca, e1, _⟩ := (hβ 7 : LnP L.length size (β 7))
  obtain ⟨Ab, cb, e2, _⟩ := (hβ 15 : LnP L.length size (β 15))
  unfold lineV at e1 e2
  repeat (
    refine lex_val (v := ?_) rfl rfl (fun w' hf => ?_) ?_
    rotate_left
    · obtain ⟨⟨c0', c1', c2', c3', c4'⟩, d0, d1, _, _⟩ := HC.out w' hf.only; go_simp
      try rfl
    try simp only [Act.put, List.setIfInBounds_toArray, List.set_cons_zero, List.set_cons_succ])
  refine lex_letter (f := 10) (args := ?_) rfl rfl (fun w' hf => ?_) (fun w' hf => ?_) ?_
  rotate_left
  · go_simp
    try rfl
  · exact ln_row hf.only.size HL1.out (by rw [← HL1.out]; omega) (HIns.out A1 c1 w' (HR3.out.next hf.only.below0))
  try simp only [Act.put, List.setIfInBounds_toArray, List.set_cons_zero, List.set_cons_succ]
  repeat (
    refine lex_val (v := ?_) rfl rfl (fun w' hf => ?_) ?_
    rotate_left
    · obtain ⟨⟨c0', c1', c2', c3', c4'⟩, d0, d1, _, _⟩ := HC.out w' hf.only; go_simp
      try rfl
    try simp only [Act.put, List.setIfInBounds_toArray, List.set_cons_zero, List.set_cons_succ])
  refine lex_letter (f := 11) (args := ?_) rfl rfl (fun w' hf => ?_) (fun w' hf => ?_) ?_
  rotate_left
  · go_simp
    try rfl
  · exact ln_row hf.only.size HL2.out (by rw [← HL2.out]; omega) (HDel.out A1 c1 w' (HR3.out.next hf.only.below0))
  try simp only [Act.put, List.setIfInBounds_toArray, List.set_cons_zero, List.set_cons_succ]
  refine lex_alloc rfl rfl (fun w' => ?_) ?_
  · go_simp
  try simp only [Act.put, List.setIfInBounds_toArray, List.set_cons_zero, List.set_cons_succ]
  refine lex_alloc rfl rfl (fun w' => ?_) ?_
  · go_simp
  try simp only [Act.put, List.setIfInBounds_toArray, List.set_cons_zero, List.set_cons_succ]
  refine lex_init rfl rfl rfl (fun b w' hb hf hB => ⟨_, ?_, (repl2 hB (.slice Aa L.length ca) (.int .i64 size)).to (by rw [e1]; rfl)⟩) ?_
  · have gB := cells2 hB
    go_simp
  try simp only [Act.put]
  refine lex_init rfl rfl rfl (fun b w' hb hf hB => ⟨_, ?_, (repl2 hB (.slice Ab L.length cb) (.int .i64 size)).to (by rw [e2]; rfl)⟩) ?_
  · have gB := cells2 hB
    go_simp
  try simp only [Act.put]
  refine lex_nil fun w4 he => ?_
  obtain ⟨ba, hba, _, hka⟩ := he.facts 16
  obtain ⟨bb, hbb, _, hkb⟩ := he.facts 17
  replace hka : Blk w4 ba 24 (unAgg (β 7)) := hka
  replace hkb : Blk w4 bb 24 (unAgg (β 15)) := hkb
  rw [e1] at hka
  rw [e2] at hkb
  have hRa := LnF.reads (A := Aa) (c := ca) HL1.out (by have := (he.facts 7).2; rw [e1] at this; exact this)
  have hRb := LnF.reads (A := Ab) (c := cb) HL2.out (by have := (he.facts 15).2; rw [e2] at this; exact this)
  have HK4 := Lib.hid (And.intro (KS.only HK3.out he.only) (And.intro (HB3.out.next he.only.below0) (And.intro (show Blk w4 ba 24 #[.slice Aa L.length ca, .int .i64 size] from hka) (And.intro (show Blk w4 bb 24 #[.slice Ab L.length cb, .int .i64 size] from hkb) (And.intro (HR3.out.next he.only.below0) (And.intro (HR3l.out.next he.only.below0) (And.intro hRa hRb)))))))
  rw [hba, hbb]
  clear he hβ hka hkb hRa hRb e1 e2 HK3 HC HB3 HR3 HR3l HK2 HR2
  go_wp2_with fail
  have HC := Lib.hid (fun w' (h : Only [] w4 w') => And.intro (KS.all (KS.only HK4.out.1 h)) (And.intro (cells2 (HK4.out.2.1.next h.below0)) (And.intro (cells2 (HK4.out.2.2.1.next h.below0)) (cells2 (HK4.out.2.2.2.1.next h.below0)))))
  refine wp_region_mix_lit (by kernel_rfl) [(8, .letter (LnP L.length size) (LnF w4.heap.size I1 size)), (9, .call (.bool true)), (19, .letter (LnP L.length size) (LnF w4.heap.size D1 size)), (20, .call (.bool true)), (25, .call (.bool true))] (by kernel_rfl) (by kernel_rfl) (by kernel_rfl) (by rfl) (by simp [apartK] <;> omega) (by simp [startK]) (by repeat (first | (refine List.forall_mem_cons.2 ⟨?_, ?_⟩; (first | exact trivial | exact lnF_stab _ _ _ _ (by simp [boxes, Kind.boxed]))) | (intro x hx; cases hx; done))) (⟨fun i => lineV none L.length L.length size, by repeat (first | (refine List.forall_mem_cons.2 ⟨?_, ?_⟩; (first | exact trivial | exact ⟨none, _, rfl, Nat.le_refl _⟩ | exact ⟨_, rfl, Nat.le_refl _⟩)) | (intro x hx; cases hx; done))⟩) (fun β hβ => ?_)
  obtain ⟨Ac, cc, e1, _⟩ := (hβ 8 : LnP L.length size (β 8))
  obtain ⟨Ad, cd, e2, _⟩ := (hβ 19 : LnP L.length size (β 19))
  unfold lineV at e1 e2
  repeat (
    refine lex_val (v := ?_) rfl rfl (fun w' hf => ?_) ?_
    rotate_left
    · obtain ⟨⟨c0', c1', c2', c3', c4'⟩, ⟨d0, d1, _, _⟩, ⟨d2, d3, _, _⟩, d4, d5, _, _⟩ := HC.out w' hf.only; go_simp
      try rfl
    try simp only [Act.put, List.setIfInBounds_toArray, List.set_cons_zero, List.set_cons_succ])
  refine lex_letter (f := 13) (args := ?_) rfl rfl (fun w' hf => ?_) (fun w' hf => ?_) ?_
  rotate_left
  · go_simp
    try rfl
  · exact ln_own (by have := hf.only.size; omega) HL1.out (HRI.out A c w' (HK4.out.2.2.2.2.2.1.next hf.only.below0))
  try simp only [Act.put, List.setIfInBounds_toArray, List.set_cons_zero, List.set_cons_succ]
  refine lex_call (f := 12) (args := ?_) rfl rfl (fun w' hf => ?_) (fun w' hf => ?_) ?_
  rotate_left
  · go_simp
    try rfl
  · exact HSa.out Aa Ac ca cc w' (HK4.out.2.2.2.2.2.2.1.next hf.only.below0) (LnF.reads (A := Ac) (c := cc) HL1.out (by have := hf.got 8 _ _ rfl (by kernel_rfl); rw [e1] at this; exact this))
  try simp only [Act.put, List.setIfInBounds_toArray, List.set_cons_zero, List.set_cons_succ]
  repeat (
    refine lex_val (v := ?_) rfl rfl (fun w' hf => ?_) ?_
    rotate_left
    · obtain ⟨⟨c0', c1', c2', c3', c4'⟩, ⟨d0, d1, _, _⟩, ⟨d2, d3, _, _⟩, d4, d5, _, _⟩ := HC.out w' hf.only; go_simp
      try rfl
    try simp only [Act.put, List.setIfInBounds_toArray, List.set_cons_zero, List.set_cons_succ])
  refine lex_letter (f := 14) (args := ?_) rfl rfl (fun w' hf => ?_) (fun w' hf => ?_) ?_
  rotate_left
  · go_simp
    try rfl
  · exact ln_own (by have := hf.only.size; omega) HL2.out (HRD.out A c w' (HK4.out.2.2.2.2.2.1.next hf.only.below0))
  try simp only [Act.put, List.setIfInBounds_toArray, List.set_cons_zero, List.set_cons_succ]
  refine lex_call (f := 12) (args := ?_) rfl rfl (fun w' hf => ?_) (fun w' hf => ?_) ?_
  rotate_left
  · go_simp
    try rfl
  · exact HSb.out Ab Ad cb cd w' (HK4.out.2.2.2.2.2.2.2.next hf.only.below0) (LnF.reads (A := Ad) (c := cd) HL2.out (by have := hf.got 19 _ _ rfl (by kernel_rfl); rw [e2] at this; exact this))
  try simp only [Act.put, List.setIfInBounds_toArray, List.set_cons_zero, List.set_cons_succ]
  repeat (
    refine lex_val (v := ?_) rfl rfl (fun w' hf => ?_) ?_
    rotate_left
    · obtain ⟨⟨c0', c1', c2', c3', c4'⟩, ⟨d0, d1, _, _⟩, ⟨d2, d3, _, _⟩, d4, d5, _, _⟩ := HC.out w' hf.only; go_simp
      try rfl
    try simp only [Act.put, List.setIfInBounds_toArray, List.set_cons_zero, List.set_cons_succ])
  refine lex_call (f := 12) (args := ?_) rfl rfl (fun w' hf => ?_) (fun w' hf => ?_) ?_
  rotate_left
  · go_simp
    try rfl
  · exact HSc.out A1 A c1 c w' (HK4.out.2.2.2.2.1.next hf.only.below0) (HK4.out.2.2.2.2.2.1.next hf.only.below0)
  try simp only [Act.put, List.setIfInBounds_toArray, List.set_cons_zero, List.set_cons_succ]
  repeat (
    refine lex_val (v := ?_) rfl rfl (fun w' hf => ?_) ?_
    rotate_left
    · obtain ⟨⟨c0', c1', c2', c3', c4'⟩, ⟨d0, d1, _, _⟩, ⟨d2, d3, _, _⟩, d4, d5, _, _⟩ := HC.out w' hf.only; go_simp
      try rfl
    try simp only [Act.put, List.setIfInBounds_toArray, List.set_cons_zero, List.set_cons_succ])
  refine lex_nil fun w5 he => ?_
  have hb5 := (KS.only HK4.out.1 he.only).2.2
  clear he hβ HC HK4
  go_wp2_with fail
  go_ret
  exact ⟨rfl, hb5⟩

/-- What the walk gives, for every argument and every world that holds the table. -/
theorem contract (H : Type) (enc : TypeId × Value → H) (W : World) (base : Nat) (args : Array Value) (ds gs : List (DataW H)) (before : List MemPlace)
    (hval : ∀ (j : Nat) t v, Try.f3.params[j]? = some t → args[j]? = some v → Value.okWide Try.prog W .any base t v)
    (hW : DataW.Whole enc Try.prog Try.f3.params.toList Rows.lineMovesSpec.vars false W args.toList ds gs before) (_hL : laidMetH Try.prog Rows.lineMovesRow.laid W)
    (hreach : (DataW.weightsEach Try.prog (Try.f3.params.toList ++ []) (ds ++ gs)).all (· ≤ reachBytes) = true) :
    Calls Try.prog 3 args W fun e W' => ∃ v, e = .returned v ∧ Rows.lineMovesSpec.post enc Try.prog Try.f3 false true false false W args v W' := by
  have hW' := hW
  clear _hL
  have hlts : ∀ x ∈ before, x.block < W.heap.size := fun x hx => hW'.lt x hx
  obtain ⟨p, q, hA0, hV, rfl, hfz, hnd⟩ := hW
  have hA : DataW.TrodAll enc Try.prog W 0 (fun _ => true) true Try.f3.params.toList args.toList ds p := hA0
  rw [Try.params3] at hA hval hreach
  obtain ⟨v0, vs0, d0, ds0, pp0, qq0, hargs, rfl, rfl, h0, rr0⟩ := trodAll_cons hA
  obtain ⟨v1, vs1, d1, ds1, pp1, qq1, rfl, rfl, rfl, h1, rr1⟩ := trodAll_cons rr0
  obtain ⟨rfl, rfl, rfl⟩ := trodAll_nil rr1
  obtain rfl : args = #[v0, v1] := by cases args; simp_all
  obtain ⟨rfl, rfl⟩ := trodVars_none hV
  obtain ⟨b0, cap0, l0, z0, rfl, hm0, hc0, hri0⟩ := line_in (hval 0 24 v0 rfl rfl) h0
  obtain ⟨f1, t1, q1, rfl⟩ := span_in (hval 1 26 v1 rfl rfl) h1
  clear hA0
  refine (walk b0 cap0 l0 z0 hm0 hc0 f1 t1 q1 W hri0).mono fun e W' ⟨he, hb⟩ => ?_
  subst he
  exact ⟨_, rfl, post_law laidOut (by kernel_rfl) (by kernel_rfl) rfl hW' rfl hb⟩

theorem laid_met (os : Os) : laidMet Try.prog Rows.lineMovesRow.laid ((laidWorld os).forCall (fun _ _ => 0) ⟨#[], #[Value.agg #[.slice none 0 0, .int .i64 0], Value.agg #[.int .i64 0, .int .i64 0, .int .i64 0]], []⟩).memory :=
  laidMet_of_run' 8 (by kernel_rfl) (by kernel_rfl)
theorem reads (os : Os) {H : Type} (enc : TypeId × Value → H) : ∃ places, DataW.whole enc Try.prog ((laidWorld os).forCall (fun _ _ => 0) ⟨#[], #[Value.agg #[.slice none 0 0, .int .i64 0], Value.agg #[.int .i64 0, .int .i64 0, .int .i64 0]], []⟩).memory Try.f3.params.toList Rows.lineMovesSpec.vars false (#[Value.agg #[.slice none 0 0, .int .i64 0], Value.agg #[.int .i64 0, .int .i64 0, .int .i64 0]] : Array Value).toList 8 = some ([.agg [.nil, .lit (.int .i64 0)], .agg [.lit (.int .i64 0), .lit (.int .i64 0), .lit (.int .i64 0)]], [], places) :=
  ⟨[], by kernel_rfl⟩

set_option maxRecDepth 100000 in
theorem lifted (os : Os) (started : os.Started) (H : Type) (enc : TypeId × Value → H) (F : Stop.Interp) :
    ReturnsInHanded {} Try.checked os 3 .any ((OpenSpec.ofChange Rows.lineMovesSpec).preRow enc Try.prog Try.f3 Rows.lineMovesRow.domain false Rows.lineMovesRow.laid) (((OpenSpec.ofChange Rows.lineMovesSpec).at F).post enc Try.prog Try.f3 false true false false) := by
  obtain ⟨places, hx⟩ := reads os enc
  refine returnsInHanded_of_row (C := Try.checked) (s := OpenSpec.ofChange Rows.lineMovesSpec) own started (by kernel_rfl) Try.func3
    (witness_row_at (enc := enc) (C := Try.checked) false (laidWorld os) #[Value.agg #[.slice none 0 0, .int .i64 0], Value.agg #[.int .i64 0, .int .i64 0, .int .i64 0]] rfl (by kernel_rfl) (by kernel_rfl) (by kernel_rfl)
      (OpenSpec.preRow_of_cond 8 hx (by kernel_rfl) (fun k hk => by cases hk) (by kernel_rfl) (laid_met os))) ?_
  intro W base args ds gs before hval hW _ _ hreach hL _ _
  exact contract H enc W base args ds gs before hval hW hL hreach

theorem said : Rows.LineMovesSaid :=
  OpenClaim.holds_of_cond 3 Try.f3 rfl rfl rfl rfl rfl rfl rfl ⟨rfl, rfl, rfl, rfl, rfl⟩ rfl rfl rfl rfl rfl (by kernel_rfl) Try.func3 (by kernel_rfl)
    (of_decide_eq_true (by kernel_rfl)) (by unfold Func.isWrapper; first | (rw [if_pos (by decide +kernel)]; kernel_rfl) | (rw [if_neg (by decide +kernel)]; exact ⟨rfl, rfl⟩))
    (fun os started H enc _ F => by rw [OpenClaim.pre_eq_preRow]; exact lifted os started H enc F)

#print axioms said
end Go.Proofs.Ytngklakdbagjpaa.lineMoves

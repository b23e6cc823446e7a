/-
  LineLays holds, whatever the input.
-/
import Derived.Test.YtngklakdbagjpaaFrame0
import Derived.Test.YtngklakdbagjpaaFrameC
import Derived.Test.YtngklakdbagjpaaLineU
import Derived.Test.YtngklakdbagjpaaLineZ
import Derived.Test.YtngklakdbagjpaaFrameL
namespace Go.Proofs.Ytngklakdbagjpaa.lineLays
open Go.ChangeShapes Go.WideShapes Go.ChangeAt Go.RowKit
open Go.ChangeMaps (open_string)

/-- What is known of a world in the midst of such a law: the line's box, and the span's. -/
def KS (w : World) (x y : Array Value) (w' : World) : Prop := Blk w' w.heap.size 24 x ∧ Blk w' (w.heap.size + 1) 26 y ∧ Below w.heap.size w w'
theorem KS.start (w : World) (x y : Array Value) : KS w x y ((w.alloc (.cells x 24)).alloc (.cells y 26)) :=
  ⟨(Blk.new w _ x).alloc _, by have := Blk.new (w.alloc (.cells x 24)) 26 y; simpa using this, ((Below.refl _ _).alloc (Nat.le_refl _) _).alloc (by simp) _⟩
theorem KS.next {w W w' : World} {x y : Array Value} (h : KS w x y W) (hb : Below W.heap.size W w') : KS w x y w' := ⟨h.1.next hb, h.2.1.next hb, h.2.2.trans (hb.mono h.2.2.size)⟩
theorem KS.store1 {w W : World} {a b : Value} {y : Array Value} (h : KS w #[a, b] y W) (u v : Value) : KS w #[u, v] y ((W.setCell ⟨w.heap.size, 0, none⟩ u).setCell ⟨w.heap.size, 1, none⟩ v) :=
  ⟨(h.1.set_ 0 u).set_ 1 v, Blk.far (Blk.far h.2.1 (by simp) _) (by simp) _, (h.2.2.setCell (by simp) _).setCell (by simp) _⟩
theorem KS.all {w W : World} {a b c d e : Value} (h : KS w #[a, b] #[c, d, e] W) :
    W.cell? ⟨w.heap.size, 0, none⟩ = some a ∧ W.cell? ⟨w.heap.size, 1, none⟩ = some b ∧ W.cell? ⟨w.heap.size + 1, 0, none⟩ = some c ∧ W.cell? ⟨w.heap.size + 1, 1, none⟩ = some d ∧ W.cell? ⟨w.heap.size + 1, 2, none⟩ = some e :=
  ⟨h.1.cell 0, h.1.cell 1, h.2.1.cell 0, h.2.1.cell 1, h.2.1.cell 2⟩
theorem KS.fr {w W : World} {x y : Array Value} (h : KS w x y W) : W.frozen? ⟨w.heap.size, 0, none⟩ = false ∧ W.frozen? ⟨w.heap.size, 1, none⟩ = false := ⟨h.1.frozen 0, h.1.frozen 1⟩
theorem KS.only {w wr W : World} {x y : Array Value} (h : KS w x y wr) (ho : Only [] wr W) : KS w x y W := h.next ho.below0

theorem sl_row {W : World} {B n : Nat} {f : FuncId} {args : Array Value} {l : List Cl} (hB : B ≤ W.heap.size) (hn : n = l.length) (hl : l.length ≤ 100000) (h : Calls Try.prog f args W fun e w' => ∃ g, W.heap.size ≤ g ∧ e = .returned (.slice (some ⟨g, 0, none⟩) n n) ∧ Row w' g l ∧ Below W.heap.size W w') :
    Calls Try.prog f args W fun e w' => ∃ u, e = .returned u ∧ SlP n u ∧ SlF B l u w' ∧ Below W.heap.size W w' :=
  h.mono fun e w' ⟨g, hg, he, hr, hb⟩ => ⟨_, he, ⟨_, _, rfl, Nat.le_refl _⟩, ⟨some ⟨g, 0, none⟩, l.length, g, by rw [hn], by omega, ocells_row hl hr⟩, hb⟩
theorem sl_base {W : World} {B b n : Nat} {f : FuncId} {args : Array Value} {l : List Cl} (hB : B ≤ b) (hn : n = l.length) (h : Calls Try.prog f args W fun e w' => ∃ v, e = .returned v ∧ OCells w' b v l ∧ Below W.heap.size W w') :
    Calls Try.prog f args W fun e w' => ∃ u, e = .returned u ∧ SlP n u ∧ SlF B l u w' ∧ Below W.heap.size W w' :=
  h.mono fun e w' ⟨v, he, ho, hb⟩ => by
    obtain ⟨A, c, rfl, hc⟩ := OCells.form ho
    exact ⟨_, he, ⟨A, c, by rw [hn], by omega⟩, ⟨A, c, _, rfl, hB, ho⟩, hb⟩
theorem SlF.reads {B n c : Nat} {L : List Cl} {A : Option Addr} {W : World} (h : SlF B L (.slice A n c) W) (hn : n = L.length) : RCells W A L := by
  have := h.own hn
  subst hn
  exact OCells.reads this

set_option maxRecDepth 100000 in
set_option maxHeartbeats 32000000 in
theorem walk (A0 : Option Addr) (c0 : Nat) (l : List Cl) (size : Int) (hl : l.length ≤ maxLen) (hc0 : l.length ≤ c0) (f t q : Int) (A2 : Option Addr) (c2 : Nat) (row : List Cl) (hw : row.length ≤ maxLen) (hc2 : row.length ≤ c2) (_ok : OkCells row) (w : World) (hr : RCells w A0 l) (hr2 : RCells w A2 row) :
    Calls Try.prog 5 #[lineV A0 l.length c0 size, .agg #[.int .i64 f, .int .i64 t, .int .i64 q], .slice A2 row.length c2] w fun e w' => e = .returned (.bool true) ∧ Below w.heap.size w w' := by
  unfold maxLen at hw
  have HAw := Lib.hid (fun W => awake_any W)
  have HOwn0 := Lib.hid (fun W h => lawOwn_any A0 c0 l size hl hc0 W h)
  have hm : (l.take 300).length ≤ 300 := by rw [List.length_take]; omega
  have hm2 : (row.take 400).length ≤ 400 := by rw [List.length_take]; omega
  have HOwn1 := Lib.hid (fun A c hc W h => lawOwn_any A c (l.take 300) size (by unfold maxLen; omega) hc W h)
  have ht : (l.take 300).take 300 = l.take 300 := List.take_of_length_le hm
  rw [ht] at HOwn1
  have HR := Lib.hid hr
  have HRw := Lib.hid (hr2.take 400)
  clear hr ht hr2
  have hT : hiP (l.take 300).length t ≤ (l.take 300).length := by unfold hiP; omega
  have hl1 : (l.take 300).length = (layP (l.take 300) (loP f) (hiP (l.take 300).length t) (row.take 400)).length := by rw [← lay_upd _ _ _ _ hT, updP_len]
  have hcl := (cutP_len (l.take 300) (loP f) _ hT).symm
  have HCe := Lib.hid (fun W h => cells_any A2 c2 (row.take 400) (by omega) W h)
  have HLay := Lib.hid (fun A c A' c' W h h' => lay_any A c (l.take 300) size f t A' c' (row.take 400) (by omega) W h h')
  have HCut := Lib.hid (fun A c hc W h => cut_any A c (l.take 300) size f t (by omega) hc W h)
  have HRLay := Lib.hid (fun A c W h h' => refLay_any A c (l.take 300) size f t A2 c2 (row.take 400) (by omega) W h h')
  have HRCut := Lib.hid (fun A c W h => refCut_any A c (l.take 300) size f t (by omega) W h)
  have HLay2 := Lib.hid (fun A c A' c' W h h' => (by
    have := lay_any A c _ size f t A' c' (cutP (l.take 300) (loP f) (hiP (l.take 300).length t)) (by rw [← hl1]; omega) W h h'
    rw [← hl1, lay_back _ _ _ _ hT, ← hcl] at this
    exact this : Calls Try.prog 19 #[lineV A (l.take 300).length c size, .int .i64 f, .int .i64 t, .slice A' (hiP (l.take 300).length t - loP f) c'] W fun e w' => ∃ g, W.heap.size ≤ g ∧ e = .returned (lineV (some ⟨g, 0, none⟩) (l.take 300).length (l.take 300).length size) ∧ Row w' g (l.take 300) ∧ Below W.heap.size W w'))
  have HSame := Lib.hid (fun (L' : List Cl) (h1 : (l.take 300).length = L'.length) (A B : Option Addr) (c d : Nat) (W : World) (hr : RCells W A L') (hs : RCells W B L') => (by
    have := refSame_any A B c d L' L' size size (by unfold maxLen; omega) (by unfold maxLen; omega) W hr hs
    rw [show decide (size = size ∧ L' = L') = true from by simp, ← h1] at this
    exact this : Calls Try.prog 12 #[lineV A (l.take 300).length c size, lineV B (l.take 300).length d size] W fun e w' => e = .returned (.bool true) ∧ Below W.heap.size W w'))
  have HSc0 := Lib.hid (fun (n : Nat) (L' : List Cl) (h1 : n = L'.length) (h2 : L'.length ≤ 100000) (A B : Option Addr) (c d : Nat) (W : World) (hr : RCells W A L') (hs : RCells W B L') => (by
    have := sameCells_any A B c d L' L' (by unfold maxLen; omega) (by unfold maxLen; omega) W hr hs
    rw [show decide (L' = L') = true from by simp, ← h1] at this
    exact this : Calls Try.prog 22 #[.slice A n c, .slice B n d] W fun e w' => e = .returned (.bool true) ∧ Below W.heap.size W w'))
  have hM : hiP (l.take 300).length t - loP f ≤ 100000 := by omega
  have hcase : (row.length ≤ 400 ∧ (row.take 400).length = row.length) ∨ (400 < row.length ∧ (row.take 400).length = 400) := by rw [List.length_take]; omega
  unfold lineV at *
  generalize l.length = n0 at *
  generalize l.take 300 = L at *
  generalize row.take 400 = R at *
  generalize cutP L (loP f) (hiP L.length t) = C at *
  generalize layP L (loP f) (hiP L.length t) R = X at *
  generalize hiP L.length t - loP f = M at *
  generalize hRl : R.length = m at *
  have HRl := Lib.hid hRl
  have HSa := Lib.hid (HSame.out X hl1)
  have HSl := Lib.hid (HSame.out L rfl)
  have HSr := Lib.hid (HSc0.out m R hRl.symm (by omega))
  have HSc := Lib.hid (HSc0.out M C hcl (by omega))
  have HL1 := Lib.hid hl1; have HCl := Lib.hid hcl; have HM := Lib.hid hM
  clear hl1 hcl HSame HSc0 hRl
  generalize row.length = nr at *
  clear _ok row
  have hcase2 : (nr = m ∧ decide (400 < (nr : Int)) = false) ∨ (m = 400 ∧ decide (400 < (nr : Int)) = true ∧ 400 ≤ c2) := by
    rcases hcase with ⟨h1, h2⟩ | ⟨h1, h2⟩
    · exact .inl ⟨h2.symm, by simp; omega⟩
    · exact .inr ⟨h2, by simp; omega, by omega⟩
  clear hcase hT
  have HK := Lib.hid (KS.start w #[.slice A0 n0 c0, .int .i64 size] #[.int .i64 f, .int .i64 t, .int .i64 q])
  rcases hcase2 with ⟨rfl, hd⟩ | ⟨rfl, hd, hc3⟩
  all_goals
    go_enter Try.func5, Try.ntmps5
    go_wp2_with fail
    refine (HAw.out _).mono ?_
    rintro e w1 ⟨rfl, hb1⟩
    have HK1 := Lib.hid (KS.next HK.out hb1)
    clear hb1
    obtain ⟨c0', c1', c2', c3', c4'⟩ := KS.all HK1.out
    go_wp2_with fail
    refine (HOwn0.out _ (HR.out.next HK1.out.2.2)).mono ?_
    rintro e w2 ⟨A, c, rfl, hown, hb2⟩
    have HK2 := Lib.hid (KS.store1 (KS.next HK1.out hb2) (.slice A L.length c) (.int .i64 size))
    have hcap := ocells_capX hown
    have HR2 := Lib.hid (OCells.reads (OCells.far (OCells.far hown (g := w.heap.size) (by have := HK1.out.2.2.size; omega) 0 (.slice A L.length c)) (g := w.heap.size) (by have := HK1.out.2.2.size; omega) 1 (.int .i64 size)))
    clear c0' c1' c2' c3' c4'
    obtain ⟨c0', c1', _, _, _⟩ := KS.all (KS.next HK1.out hb2)
    obtain ⟨f0, f1⟩ := KS.fr (KS.next HK1.out hb2)
    clear hown hb2
    go_wp2_with fail
    clear c0' c1' f0 f1
    generalize (w2.setCell ⟨w.heap.size, 0, none⟩ (.slice A L.length c)).setCell ⟨w.heap.size, 1, none⟩ (.int .i64 size) = W2 at *
    clear HAw HOwn0 HR HK HK1
    obtain ⟨c0', c1', c2', c3', c4'⟩ := KS.all HK2.out
    go_wp2_with fail
    clear c0' c1' c2' c3' c4'
    have hRw2 := HRw.out.next HK2.out.2.2
    refine (HCe.out _ hRw2).mono ?_
    rintro e w3 ⟨v, rfl, hown, hb3⟩
    obtain ⟨Ag, cg, rfl, hcg⟩ := OCells.form hown
    have HRg3 := Lib.hid (OCells.reads hown)
    have HRw3 := Lib.hid (hRw2.next hb3)
    have HK3 := Lib.hid (KS.next HK2.out hb3)
    have HR3 := Lib.hid (HR2.out.next hb3)
    clear hown hb3 hRw2 HK2 HR2
    rw [HRl.out] at hcg ⊢
    obtain ⟨c0', c1', c2', c3', c4'⟩ := KS.all HK3.out
    go_wp2_with fail
    clear c0' c1' c2' c3' c4'
    have HC := Lib.hid (fun w' (h : Only [] w3 w') => KS.all (KS.only HK3.out h))
    refine wp_region_mix_lit (by kernel_rfl) [(1, .letter (LnP L.length size) (LnF w3.heap.size L size)), (7, .letter (LnP L.length size) (LnF w3.heap.size X size)), (8, .alloc 9 24 #[.slice none 0 0, .int .i64 0] (fun β => unAgg (β 7))), (9, .init 8)] (by kernel_rfl) (by kernel_rfl) (by kernel_rfl) (by rfl) (by simp [apartK] <;> omega) (by simp [startK]) (by repeat (first | (refine List.forall_mem_cons.2 ⟨?_, ?_⟩; (first | exact trivial | exact lnF_stab _ _ _ _ (by simp [boxes, Kind.boxed]))) | (intro x hx; cases hx; done))) (⟨fun i => if i = 8 then .pointer (some ⟨w3.heap.size, 0, none⟩) else lineV none L.length L.length size, by repeat (first | (refine List.forall_mem_cons.2 ⟨?_, ?_⟩; (first | exact trivial | exact ⟨none, _, rfl, Nat.le_refl _⟩ | exact ⟨_, rfl, Nat.le_refl _⟩)) | (intro x hx; cases hx; done))⟩) (fun β hβ => ?_)
    obtain ⟨A1, c1, e1, _⟩ := (hβ 1 : LnP L.length size (β 1))
    obtain ⟨A3, c3, e3, _⟩ := (hβ 7 : LnP L.length size (β 7))
    unfold lineV at e1 e3
    repeat (
      refine lex_val (v := ?_) rfl rfl (fun w' hf => ?_) ?_
      rotate_left
      · obtain ⟨c0', c1', c2', c3', c4'⟩ := HC.out w' hf.only; go_simp
        try rfl
      try simp only [Act.put, List.setIfInBounds_toArray, List.set_cons_zero, List.set_cons_succ])
    refine lex_letter (f := 9) (args := ?_) rfl rfl (fun w' hf => ?_) (fun w' hf => ?_) ?_
    rotate_left
    · go_simp
      try rfl
    · exact ln_own (by have := hf.only.size; omega) rfl (HOwn1.out A c hcap w' (HR3.out.next hf.only.below0))
    try simp only [Act.put, List.setIfInBounds_toArray, List.set_cons_zero, List.set_cons_succ]
    repeat (
      refine lex_val (v := ?_) rfl rfl (fun w' hf => ?_) ?_
      rotate_left
      · obtain ⟨c0', c1', c2', c3', c4'⟩ := HC.out w' hf.only; go_simp
        try rfl
      try simp only [Act.put, List.setIfInBounds_toArray, List.set_cons_zero, List.set_cons_succ])
    refine lex_letter (f := 19) (args := ?_) rfl rfl (fun w' hf => ?_) (fun w' hf => ?_) ?_
    rotate_left
    · go_simp
      try rfl
    · exact ln_row hf.only.size HL1.out (by rw [← HL1.out]; omega) (HLay.out A1 c1 Ag cg w' (LnF.reads (A := A1) (c := c1) rfl (by have := hf.got 1 _ _ rfl (by kernel_rfl); rw [e1] at this; exact this)) (HRg3.out.next hf.only.below0))
    try simp only [Act.put, List.setIfInBounds_toArray, List.set_cons_zero, List.set_cons_succ]
    refine lex_alloc rfl rfl (fun w' => ?_) ?_
    · go_simp
    try simp only [Act.put, List.setIfInBounds_toArray, List.set_cons_zero, List.set_cons_succ]
    refine lex_init rfl rfl rfl (fun b w' hb hf hB => ⟨_, ?_, (repl2 hB (.slice A3 L.length c3) (.int .i64 size)).to (by rw [e3]; rfl)⟩) ?_
    · have gB := cells2 hB
      go_simp
    try simp only [Act.put]
    refine lex_nil fun w4 he => ?_
    obtain ⟨ba, hba, _, hka⟩ := he.facts 8
    replace hka : Blk w4 ba 24 (unAgg (β 7)) := hka
    rw [e3] at hka
    have hRa := LnF.reads (A := A3) (c := c3) HL1.out (by have := (he.facts 7).2; rw [e3] at this; exact this)
    have HK4 := Lib.hid (And.intro (KS.only HK3.out he.only) (And.intro (show Blk w4 ba 24 #[.slice A3 L.length c3, .int .i64 size] from hka) (And.intro (HR3.out.next he.only.below0) (And.intro hRa (And.intro (HRg3.out.next he.only.below0) (HRw3.out.next he.only.below0))))))
    rw [hba]
    clear he hβ hka hRa e1 e3 HC HK3 HR3 HRg3 HRw3
    go_wp2_with fail
    have HC := Lib.hid (fun w' (h : Only [] w4 w') => And.intro (KS.all (KS.only HK4.out.1 h)) (cells2 (HK4.out.2.1.next h.below0)))
    refine wp_region_mix_lit (by kernel_rfl) [(1, .letter (LnP L.length size) (LnF w4.heap.size L size)), (6, .letter (SlP M) (SlF w4.heap.size C))] (by kernel_rfl) (by kernel_rfl) (by kernel_rfl) (by rfl) (by simp [apartK] <;> omega) (by simp [startK]) (by repeat (first | (refine List.forall_mem_cons.2 ⟨?_, ?_⟩; (first | exact trivial | exact lnF_stab _ _ _ _ (by simp [boxes, Kind.boxed]) | exact slF_stab _ _ _ (by simp [boxes, Kind.boxed]))) | (intro x hx; cases hx; done))) (⟨fun i => if i = 6 then .slice none M M else lineV none L.length L.length size, by repeat (first | (refine List.forall_mem_cons.2 ⟨?_, ?_⟩; (first | exact trivial | exact ⟨none, _, rfl, Nat.le_refl _⟩ | exact ⟨_, rfl, Nat.le_refl _⟩)) | (intro x hx; cases hx; done))⟩) (fun β hβ => ?_)
    obtain ⟨A5, c5, e1, hc5⟩ := (hβ 1 : LnP L.length size (β 1))
    obtain ⟨A6, c6, e2, _⟩ := (hβ 6 : SlP M (β 6))
    unfold lineV at e1
    repeat (
      refine lex_val (v := ?_) rfl rfl (fun w' hf => ?_) ?_
      rotate_left
      · obtain ⟨⟨c0', c1', c2', c3', c4'⟩, d0, d1, _, _⟩ := HC.out w' hf.only; go_simp
        try rfl
      try simp only [Act.put, List.setIfInBounds_toArray, List.set_cons_zero, List.set_cons_succ])
    refine lex_letter (f := 9) (args := ?_) rfl rfl (fun w' hf => ?_) (fun w' hf => ?_) ?_
    rotate_left
    · go_simp
      try rfl
    · exact ln_own (by have := hf.only.size; omega) rfl (HOwn1.out A c hcap w' (HK4.out.2.2.1.next hf.only.below0))
    try simp only [Act.put, List.setIfInBounds_toArray, List.set_cons_zero, List.set_cons_succ]
    repeat (
      refine lex_val (v := ?_) rfl rfl (fun w' hf => ?_) ?_
      rotate_left
      · obtain ⟨⟨c0', c1', c2', c3', c4'⟩, d0, d1, _, _⟩ := HC.out w' hf.only; go_simp
        try rfl
      try simp only [Act.put, List.setIfInBounds_toArray, List.set_cons_zero, List.set_cons_succ])
    refine lex_letter (f := 20) (args := ?_) rfl rfl (fun w' hf => ?_) (fun w' hf => ?_) ?_
    rotate_left
    · go_simp
      try rfl
    · exact sl_row hf.only.size HCl.out (by rw [← HCl.out]; exact HM.out) (HCut.out A5 c5 hc5 w' (LnF.reads (A := A5) (c := c5) rfl (by have := hf.got 1 _ _ rfl (by kernel_rfl); rw [e1] at this; exact this)))
    try simp only [Act.put, List.setIfInBounds_toArray, List.set_cons_zero, List.set_cons_succ]
    repeat (
      refine lex_val (v := ?_) rfl rfl (fun w' hf => ?_) ?_
      rotate_left
      · go_simp
        try rfl
      try simp only [Act.put, List.setIfInBounds_toArray, List.set_cons_zero, List.set_cons_succ])
    refine lex_nil fun w5 he => ?_
    have hRc : SlF w4.heap.size C (.slice A6 M c6) w5 := by have := (he.facts 6).2; rw [e2] at this; exact this
    have HK5 := Lib.hid (And.intro (KS.only HK4.out.1 he.only) (And.intro (HK4.out.2.1.next he.only.below0) (And.intro (HK4.out.2.2.1.next he.only.below0) (And.intro (HK4.out.2.2.2.1.next he.only.below0) (And.intro (HK4.out.2.2.2.2.1.next he.only.below0) (And.intro (HK4.out.2.2.2.2.2.next he.only.below0) (SlF.reads hRc HCl.out)))))))
    rw [show β (0 + 1 + 1 + 1 + 1 + 1 + 1) = Value.slice A6 M c6 from e2]
    clear he hβ hRc e1 e2 HC HK4
    go_wp2_with fail
    have HC := Lib.hid (fun w' (h : Only [] w5 w') => And.intro (KS.all (KS.only HK5.out.1 h)) (cells2 (HK5.out.2.1.next h.below0)))
    refine wp_region_mix_lit (by kernel_rfl) [(7, .letter (LnP L.length size) (LnF w5.heap.size X size)), (8, .call (.bool true)), (13, .call (.bool true)), (23, .letter (SlP M) (SlF w5.heap.size C)), (24, .call (.bool true))] (by kernel_rfl) (by kernel_rfl) (by kernel_rfl) (by rfl) (by simp [apartK] <;> omega) (by simp [startK]) (by repeat (first | (refine List.forall_mem_cons.2 ⟨?_, ?_⟩; (first | exact trivial | exact lnF_stab _ _ _ _ (by simp [boxes, Kind.boxed]) | exact slF_stab _ _ _ (by simp [boxes, Kind.boxed]))) | (intro x hx; cases hx; done))) (⟨fun i => if i = 23 then .slice none M M else lineV none L.length L.length size, by repeat (first | (refine List.forall_mem_cons.2 ⟨?_, ?_⟩; (first | exact trivial | exact ⟨none, _, rfl, Nat.le_refl _⟩ | exact ⟨_, rfl, Nat.le_refl _⟩)) | (intro x hx; cases hx; done))⟩) (fun β hβ => ?_)
    obtain ⟨A7, c7, e1, _⟩ := (hβ 7 : LnP L.length size (β 7))
    obtain ⟨A8, c8, e2, _⟩ := (hβ 23 : SlP M (β 23))
    unfold lineV at e1
    repeat (
      refine lex_val (v := ?_) rfl rfl (fun w' hf => ?_) ?_
      rotate_left
      · obtain ⟨⟨c0', c1', c2', c3', c4'⟩, d0, d1, _, _⟩ := HC.out w' hf.only; go_simp
        try rfl
      try simp only [Act.put, List.setIfInBounds_toArray, List.set_cons_zero, List.set_cons_succ])
    refine lex_letter (f := 21) (args := ?_) rfl rfl (fun w' hf => ?_) (fun w' hf => ?_) ?_
    rotate_left
    · go_simp
      try rfl
    · exact ln_own (Nat.le_trans hf.only.size (Nat.le_add_right _ 2)) HL1.out (HRLay.out A c w' (HK5.out.2.2.1.next hf.only.below0) (HK5.out.2.2.2.2.2.1.next hf.only.below0))
    try simp only [Act.put, List.setIfInBounds_toArray, List.set_cons_zero, List.set_cons_succ]
    refine lex_call (f := 12) (args := ?_) rfl rfl (fun w' hf => ?_) (fun w' hf => ?_) ?_
    rotate_left
    · go_simp
      try rfl
    · exact HSa.out A3 A7 c3 c7 w' (HK5.out.2.2.2.1.next hf.only.below0) (LnF.reads (A := A7) (c := c7) HL1.out (by have := hf.got 7 _ _ rfl (by kernel_rfl); rw [e1] at this; exact this))
    try simp only [Act.put, List.setIfInBounds_toArray, List.set_cons_zero, List.set_cons_succ]
    repeat (
      refine lex_val (v := ?_) rfl rfl (fun w' hf => ?_) ?_
      rotate_left
      · go_simp
        try rfl
      try simp only [Act.put, List.setIfInBounds_toArray, List.set_cons_zero, List.set_cons_succ])
    refine lex_call (f := 22) (args := ?_) rfl rfl (fun w' hf => ?_) (fun w' hf => ?_) ?_
    rotate_left
    · go_simp
      try rfl
    · exact HSr.out Ag A2 cg c2 w' (HK5.out.2.2.2.2.1.next hf.only.below0) (HK5.out.2.2.2.2.2.1.next hf.only.below0)
    try simp only [Act.put, List.setIfInBounds_toArray, List.set_cons_zero, List.set_cons_succ]
    repeat (
      refine lex_val (v := ?_) rfl rfl (fun w' hf => ?_) ?_
      rotate_left
      · obtain ⟨⟨c0', c1', c2', c3', c4'⟩, d0, d1, _, _⟩ := HC.out w' hf.only; go_simp
        try rfl
      try simp only [Act.put, List.setIfInBounds_toArray, List.set_cons_zero, List.set_cons_succ])
    refine lex_letter (f := 23) (args := ?_) rfl rfl (fun w' hf => ?_) (fun w' hf => ?_) ?_
    rotate_left
    · go_simp
      try rfl
    · exact sl_base (Nat.le_trans hf.only.size (Nat.le_add_right _ 1)) HCl.out (HRCut.out A c w' (HK5.out.2.2.1.next hf.only.below0))
    try simp only [Act.put, List.setIfInBounds_toArray, List.set_cons_zero, List.set_cons_succ]
    refine lex_call (f := 22) (args := ?_) rfl rfl (fun w' hf => ?_) (fun w' hf => ?_) ?_
    rotate_left
    · go_simp
      try rfl
    · exact HSc.out A6 A8 c6 c8 w' (HK5.out.2.2.2.2.2.2.next hf.only.below0) (SlF.reads (show SlF w5.heap.size C (.slice A8 M c8) w' from (by have := hf.got 23 _ _ rfl (by kernel_rfl); rw [e2] at this; exact this)) HCl.out)
    try simp only [Act.put, List.setIfInBounds_toArray, List.set_cons_zero, List.set_cons_succ]
    repeat (
      refine lex_val (v := ?_) rfl rfl (fun w' hf => ?_) ?_
      rotate_left
      · go_simp
        try rfl
      try simp only [Act.put, List.setIfInBounds_toArray, List.set_cons_zero, List.set_cons_succ])
    refine lex_nil fun w6 he => ?_
    have HK6 := Lib.hid (And.intro (KS.only HK5.out.1 he.only) (And.intro (HK5.out.2.1.next he.only.below0) (And.intro (HK5.out.2.2.1.next he.only.below0) (And.intro (HK5.out.2.2.2.1.next he.only.below0) (HK5.out.2.2.2.2.2.2.next he.only.below0)))))
    clear he hβ e1 e2 HC HK5
    go_wp2_with fail
    have HC := Lib.hid (fun w' (h : Only [] w6 w') => And.intro (KS.all (KS.only HK6.out.1 h)) (cells2 (HK6.out.2.1.next h.below0)))
    refine wp_region_mix_lit (by kernel_rfl) [(6, .letter (LnP L.length size) (LnF w6.heap.size L size)), (8, .call (.bool true))] (by kernel_rfl) (by kernel_rfl) (by kernel_rfl) (by rfl) (by simp [apartK] <;> omega) (by simp [startK]) (by repeat (first | (refine List.forall_mem_cons.2 ⟨?_, ?_⟩; (first | exact trivial | exact lnF_stab _ _ _ _ (by simp [boxes, Kind.boxed]))) | (intro x hx; cases hx; done))) (⟨fun i => lineV none L.length L.length size, by repeat (first | (refine List.forall_mem_cons.2 ⟨?_, ?_⟩; (first | exact trivial | exact ⟨none, _, rfl, Nat.le_refl _⟩ | exact ⟨_, rfl, Nat.le_refl _⟩)) | (intro x hx; cases hx; done))⟩) (fun β hβ => ?_)
    obtain ⟨A9, c9, e1, _⟩ := (hβ 6 : LnP L.length size (β 6))
    unfold lineV at e1
    repeat (
      refine lex_val (v := ?_) rfl rfl (fun w' hf => ?_) ?_
      rotate_left
      · obtain ⟨⟨c0', c1', c2', c3', c4'⟩, d0, d1, _, _⟩ := HC.out w' hf.only; go_simp
        try rfl
      try simp only [Act.put, List.setIfInBounds_toArray, List.set_cons_zero, List.set_cons_succ])
    refine lex_letter (f := 19) (args := ?_) rfl rfl (fun w' hf => ?_) (fun w' hf => ?_) ?_
    rotate_left
    · go_simp
      try rfl
    · exact ln_row hf.only.size rfl (by omega) (HLay2.out A3 c3 A6 c6 w' (HK6.out.2.2.2.1.next hf.only.below0) (HK6.out.2.2.2.2.next hf.only.below0))
    try simp only [Act.put, List.setIfInBounds_toArray, List.set_cons_zero, List.set_cons_succ]
    repeat (
      refine lex_val (v := ?_) rfl rfl (fun w' hf => ?_) ?_
      rotate_left
      · obtain ⟨⟨c0', c1', c2', c3', c4'⟩, d0, d1, _, _⟩ := HC.out w' hf.only; go_simp
        try rfl
      try simp only [Act.put, List.setIfInBounds_toArray, List.set_cons_zero, List.set_cons_succ])
    refine lex_call (f := 12) (args := ?_) rfl rfl (fun w' hf => ?_) (fun w' hf => ?_) ?_
    rotate_left
    · go_simp
      try rfl
    · exact HSl.out A9 A c9 c w' (LnF.reads (A := A9) (c := c9) rfl (by have := hf.got 6 _ _ rfl (by kernel_rfl); rw [e1] at this; exact this)) (HK6.out.2.2.1.next hf.only.below0)
    try simp only [Act.put, List.setIfInBounds_toArray, List.set_cons_zero, List.set_cons_succ]
    repeat (
      refine lex_val (v := ?_) rfl rfl (fun w' hf => ?_) ?_
      rotate_left
      · go_simp
        try rfl
      try simp only [Act.put, List.setIfInBounds_toArray, List.set_cons_zero, List.set_cons_succ])
    refine lex_nil fun w7 he => ?_
    have hb7 := (KS.only HK6.out.1 he.only).2.2
    clear he hβ HC HK6
    go_wp2_with fail
    go_ret
    exact ⟨rfl, hb7⟩

/-- What the walk gives, for every argument and every world that holds the table. -/
theorem contract (H : Type) (enc : TypeId × Value → H) (W : World) (base : Nat) (args : Array Value) (ds gs : List (DataW H)) (before : List MemPlace)
    (hval : ∀ (j : Nat) t v, Try.f5.params[j]? = some t → args[j]? = some v → Value.okWide Try.prog W .any base t v)
    (hW : DataW.Whole enc Try.prog Try.f5.params.toList Rows.lineLaysSpec.vars false W args.toList ds gs before) (_hL : laidMetH Try.prog Rows.lineLaysRow.laid W)
    (hreach : (DataW.weightsEach Try.prog (Try.f5.params.toList ++ []) (ds ++ gs)).all (· ≤ reachBytes) = true) :
    Calls Try.prog 5 args W fun e W' => ∃ v, e = .returned v ∧ Rows.lineLaysSpec.post enc Try.prog Try.f5 false true false false W args v W' := by
  have hW' := hW
  clear _hL
  have hlts : ∀ x ∈ before, x.block < W.heap.size := fun x hx => hW'.lt x hx
  obtain ⟨p, q, hA0, hV, rfl, hfz, hnd⟩ := hW
  have hA : DataW.TrodAll enc Try.prog W 0 (fun _ => true) true Try.f5.params.toList args.toList ds p := hA0
  rw [Try.params5] at hA hval hreach
  obtain ⟨v0, vs0, d0, ds0, pp0, qq0, hargs, rfl, rfl, h0, rr0⟩ := trodAll_cons hA
  obtain ⟨v1, vs1, d1, ds1, pp1, qq1, rfl, rfl, rfl, h1, rr1⟩ := trodAll_cons rr0
  obtain ⟨v2, vs2, d2, ds2, pp2, qq2, rfl, rfl, rfl, h2, rr2⟩ := trodAll_cons rr1
  obtain ⟨rfl, rfl, rfl⟩ := trodAll_nil rr2
  obtain rfl : args = #[v0, v1, v2] := by cases args; simp_all
  obtain ⟨rfl, rfl⟩ := trodVars_none hV
  obtain ⟨b0, cap0, l0, z0, rfl, hm0, hc0, hri0⟩ := line_in (hval 0 24 v0 rfl rfl) h0
  obtain ⟨f1, t1, q1, rfl⟩ := span_in (hval 1 26 v1 rfl rfl) h1
  obtain ⟨b2, len2, cap2, rfl⟩ := okWide_slice Try.underlying22 (hval 2 22 v2 rfl rfl)
  obtain ⟨l2, hlen2, hm2, hc2, ok2, hri2⟩ := cells_in h2
  subst hlen2
  clear hA0
  refine (walk b0 cap0 l0 z0 hm0 hc0 f1 t1 q1 b2 cap2 l2 hm2 hc2 ok2 W hri0 hri2).mono fun e W' ⟨he, hb⟩ => ?_
  subst he
  exact ⟨_, rfl, post_law laidOut (by kernel_rfl) (by kernel_rfl) rfl hW' rfl hb⟩

theorem laid_met (os : Os) : laidMet Try.prog Rows.lineLaysRow.laid ((laidWorld os).forCall (fun _ _ => 0) ⟨#[], #[Value.agg #[.slice none 0 0, .int .i64 0], Value.agg #[.int .i64 0, .int .i64 0, .int .i64 0], Value.slice none 0 0], []⟩).memory :=
  laidMet_of_run' 8 (by kernel_rfl) (by kernel_rfl)
theorem reads (os : Os) {H : Type} (enc : TypeId × Value → H) : ∃ places, DataW.whole enc Try.prog ((laidWorld os).forCall (fun _ _ => 0) ⟨#[], #[Value.agg #[.slice none 0 0, .int .i64 0], Value.agg #[.int .i64 0, .int .i64 0, .int .i64 0], Value.slice none 0 0], []⟩).memory Try.f5.params.toList Rows.lineLaysSpec.vars false (#[Value.agg #[.slice none 0 0, .int .i64 0], Value.agg #[.int .i64 0, .int .i64 0, .int .i64 0], Value.slice none 0 0] : Array Value).toList 8 = some ([.agg [.nil, .lit (.int .i64 0)], .agg [.lit (.int .i64 0), .lit (.int .i64 0), .lit (.int .i64 0)], .nil], [], places) :=
  ⟨[], by kernel_rfl⟩

set_option maxRecDepth 100000 in
theorem lifted (os : Os) (started : os.Started) (H : Type) (enc : TypeId × Value → H) (F : Stop.Interp) :
    ReturnsInHanded {} Try.checked os 5 .any ((OpenSpec.ofChange Rows.lineLaysSpec).preRow enc Try.prog Try.f5 Rows.lineLaysRow.domain false Rows.lineLaysRow.laid) (((OpenSpec.ofChange Rows.lineLaysSpec).at F).post enc Try.prog Try.f5 false true false false) := by
  obtain ⟨places, hx⟩ := reads os enc
  refine returnsInHanded_of_row (C := Try.checked) (s := OpenSpec.ofChange Rows.lineLaysSpec) own started (by kernel_rfl) Try.func5
    (witness_row_at (enc := enc) (C := Try.checked) false (laidWorld os) #[Value.agg #[.slice none 0 0, .int .i64 0], Value.agg #[.int .i64 0, .int .i64 0, .int .i64 0], Value.slice none 0 0] rfl (by kernel_rfl) (by kernel_rfl) (by kernel_rfl)
      (OpenSpec.preRow_of_cond 8 hx (by kernel_rfl) (fun k hk => by cases hk) (by kernel_rfl) (laid_met os))) ?_
  intro W base args ds gs before hval hW _ _ hreach hL _ _
  exact contract H enc W base args ds gs before hval hW hL hreach

theorem said : Rows.LineLaysSaid :=
  OpenClaim.holds_of_cond 5 Try.f5 rfl rfl rfl rfl rfl rfl rfl ⟨rfl, rfl, rfl, rfl, rfl⟩ rfl rfl rfl rfl rfl (by kernel_rfl) Try.func5 (by kernel_rfl)
    (of_decide_eq_true (by kernel_rfl)) (by unfold Func.isWrapper; first | (rw [if_pos (by decide +kernel)]; kernel_rfl) | (rw [if_neg (by decide +kernel)]; exact ⟨rfl, rfl⟩))
    (fun os started H enc _ F => by rw [OpenClaim.pre_eq_preRow]; exact lifted os started H enc F)

#print axioms said
end Go.Proofs.Ytngklakdbagjpaa.lineLays

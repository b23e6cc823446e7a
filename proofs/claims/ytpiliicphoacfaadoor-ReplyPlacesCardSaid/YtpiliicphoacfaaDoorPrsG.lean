/-
  The token that has ended.
-/
import Derived.Test.YtpiliicphoacfaaDoorPrsF
import Derived.Test.YtpiliicphoacfaaDoorTokL
namespace Go.Proofs.YtpiliicphoacfaaDoor

open Go Go.RowKit

/-- What is read at a call's end out of a box of its own. -/
theorem row_far {w : World} {b : Nat} (y : Array Value) {k : Nat} (hk : k ≠ b) : (w.setRow b y).heap[k]? = w.heap[k]? := by
  show (w.heap.modify b _)[k]? = _
  rw [Array.getElem?_modify, if_neg (fun e => hk e.symm)]
theorem grown_row (w : World) (b : Nat) (y : Array Value) : w.grownBy (w.setRow b y) (some b) := ⟨rfl, rfl, rfl, by simp [World.setRow], fun k _ hn => row_far y (fun e => hn (by rw [e]))⟩
/-- A token of memory of its own. -/
def OTk (w : World) (base : Nat) (v : Value) (t : Tok) : Prop := ∃ A c B d, v = .agg (t.cs A c B d) ∧ OInts w base (.slice A t.ps.length c) t.ps ∧ OByt w base (.slice B t.dt.length d) t.dt
theorem oi_keep {w w' : World} {base : Nat} {v : Value} {l : List Int} {row : Option Nat} (h : OInts w base v l) (hg : w.grownBy w' row) (hr : ∀ k, row = some k → k < base) : OInts w' base v l :=
  World.ownsRow.kept (row := row) h hg (by
    rcases hk : v.ownBlock with _ | k
    · exact .inl rfl
    · right; intro e; have h1 := (World.ownsRow.lt (oints_own h) k hk).1; have h2 := hr k e.symm; omega)
theorem ob_keep {w w' : World} {base : Nat} {v : Value} {l : List Nat} {row : Option Nat} (h : OByt w base v l) (hg : w.grownBy w' row) (hr : ∀ k, row = some k → k < base) : OByt w' base v l :=
  World.ownsRow.kept (row := row) h hg (by
    rcases hk : v.ownBlock with _ | k
    · exact .inl rfl
    · right; intro e; have h1 := (World.ownsRow.lt (obyt_own h) k hk).1; have h2 := hr k e.symm; omega)
theorem OTk.keep {w w' : World} {base : Nat} {v : Value} {t : Tok} {row : Option Nat} (h : OTk w base v t) (hg : w.grownBy w' row) (hr : ∀ k, row = some k → k < base) : OTk w' base v t := by
  obtain ⟨A, c, B, d, e, h1, h2⟩ := h
  exact ⟨A, c, B, d, e, oi_keep h1 hg hr, ob_keep h2 hg hr⟩
theorem OTk.more {w : World} {b b' : Nat} {v : Value} {t : Tok} (h : OTk w b v t) (hb : b' ≤ b) : OTk w b' v t := by
  obtain ⟨A, c, B, d, e, h1, h2⟩ := h
  exact ⟨A, c, B, d, e, own_base h1 hb, own_base h2 hb⟩
def tok0 : Tok := ⟨0, 0, 0, [], ⟨#[]⟩, []⟩
theorem otk0 (w : World) (b : Nat) : OTk w b (.agg zTok) tok0 := ⟨none, 0, none, 0, rfl, World.ownsRow_nil _ _ _ _, World.ownsRow_nil _ _ _ _⟩
/-- What a call of a parser's steps leaves. -/
def TkQ (w : World) (g : Nat) (r : Ps × Tok) (e : Ending) (w' : World) : Prop := ∃ v, e = .returned v ∧ OTk w' w.heap.size v r.2 ∧ PsB w' g r.1 ∧ w.grownBy w' (some g)
def endT (s : Ps) : Tok := if s.vo then tok0 else ⟨s.kd, s.cd, s.mr, s.fs.take 30, s.it, s.ds⟩
theorem tkU : Tryd.prog.underlying 29 = some (.struct (Tryd.prog.fieldsOf 29)) := by kernel_rfl
theorem tkS6 : (Tryd.prog.info? 29).map (·.size) = some 6 := by kernel_rfl
theorem zTok_one : zTok.all (·.oneCell') = true := by simp [zTok, Value.oneCell']
/-- What is known in the midst of an end. -/
structure EnW (w W : World) (g : Nat) (s : Ps) (x : Array Value) : Prop where
  prs : PsB W g s
  two : Blk W w.heap.size 29 zTok
  three : Blk W (w.heap.size + 1) 29 x
  bel : Below w.heap.size w W
  lt : w.heap.size + 2 ≤ W.heap.size
  gl : g < w.heap.size
theorem EnW.set {w W : World} {g : Nat} {s : Ps} {x : Array Value} (h : EnW w W g s x) (y : Array Value) : EnW w (W.setRow (w.heap.size + 1) y) g s y := by
  have hfar : ∀ k, k ≠ w.heap.size + 1 → (W.setRow (w.heap.size + 1) y).heap[k]? = W.heap[k]? := fun k hk => by
    show (W.heap.modify (w.heap.size + 1) _)[k]? = _
    rw [Array.getElem?_modify, if_neg (fun e => hk e.symm)]
  refine ⟨⟨(hfar g (by have := h.gl; omega)).trans h.prs.blk, h.prs.ok⟩, (hfar _ (by omega)).trans h.two, setRow_heap W _ _ _ _ _ h.three, ⟨h.bel.os, h.bel.tape, h.bel.output, by simpa [World.setRow] using h.bel.size, fun k hk => (hfar k (by omega)).trans (h.bel.block k hk)⟩, by simpa [World.setRow] using h.lt, h.gl⟩
def isTk (s : Ps) : Array Value := #[.int .i64 s.kd, .int .u8 (s.cd : Int), .int .u8 (s.mr : Int), .slice none 0 0, .string s.it, .slice none 0 0]
theorem rng_is {w : World} {g : Nat} {s : Ps} (h : PsB w g s) : w.rangeAt g 1 (isTk s).toList := fun j v hv => by
  have hj : j < 6 := (List.getElem?_eq_some_iff.1 hv).1
  apply h.at_
  rw [← hv]
  rcases j with _ | _ | _ | _ | _ | _ | j
  · rfl
  · rfl
  · rfl
  · rfl
  · rfl
  · rfl
  · omega
theorem only_grown {b : Nat} {w W : World} (h : Only [b] w W) : w.grownBy W (some b) := ⟨h.os, h.tape, h.output, h.size, fun k hk hn => h.block k hk (by simp only [List.mem_singleton]; intro e; exact hn (by rw [e]))⟩
set_option maxRecDepth 100000 in
set_option maxHeartbeats 16000000 in
theorem end_any (g : Nat) (s : Ps) (w : World) (h : PsB w g s) :
    Calls Tryd.prog 94 #[.pointer (some ⟨g, 0, none⟩)] w (TkQ w g (ps0, endT s)) := by
  have hw0 : Below w.heap.size w ((w.alloc (.cells zTok 29)).alloc (.cells zTok 29)) := ((Below.refl _ w).alloc (Nat.le_refl _) _).alloc (by simp) _
  have b2 := (Blk.new w 29 zTok).alloc (.cells zTok 29)
  have b3 := Blk.new (w.alloc (.cells zTok 29)) 29 zTok
  rw [World.size_alloc] at b3
  have HE : Hid (EnW w ((w.alloc (.cells zTok 29)).alloc (.cells zTok 29)) g s zTok) := Lib.hid ⟨h.next hw0, b2, b3, hw0, by simp, h.lt⟩
  have HR := Lib.hid (fun W h => reset_any g s W h)
  clear hw0 b2 b3 h
  go_enter Tryd.func94, Tryd.ntmps94
  go_upto_region 2 with fail
  change Hid (EnW w ((w.alloc (.cells #[.int .i64 0, .int .u8 0, .int .u8 0, .slice none 0 0, .string ⟨#[]⟩, .slice none 0 0] 29)).alloc (.cells #[.int .i64 0, .int .u8 0, .int .u8 0, .slice none 0 0, .string ⟨#[]⟩, .slice none 0 0] 29)) g s zTok) at HE
  generalize (w.alloc (.cells #[.int .i64 0, .int .u8 0, .int .u8 0, .slice none 0 0, .string ⟨#[]⟩, .slice none 0 0] 29)).alloc (.cells #[.int .i64 0, .int .u8 0, .int .u8 0, .slice none 0 0, .string ⟨#[]⟩, .slice none 0 0] 29) = w1 at *
  have q39 := HE.out.prs.at_ 39 _ (cell_void s)
  rcases hv : s.vo with _ | _
  · rw [hv] at q39
    go_upto_region 3 with fail
    go_wp2_with (first | (refine wpList_load_mid rfl 29 _ rfl g 1 rfl (isTk s).toList _ (rng_is HE.out.prs) tkU rfl tkS6 ?_) | (refine wpList_store_row rfl _ _ _ rfl (w.heap.size + 1) (isTk s) rfl rfl _ _ HE.out.three tkS6 rfl (by simp [isTk, Value.oneCell']) ?_))
    have HE2 : Hid (EnW w (w1.setRow (w.heap.size + 1) (isTk s)) g s (isTk s)) := Lib.hid (HE.out.set (isTk s))
    change Hid (EnW w (w1.setRow (w.heap.size + 1) #[.int .i64 s.kd, .int .u8 (s.cd : Int), .int .u8 (s.mr : Int), .slice none 0 0, .string s.it, .slice none 0 0]) g s (isTk s)) at HE2
    (try simp only [Exit.inBlock, Exit.then])
    change Code.wp _ _ _ _ (w1.setRow (w.heap.size + 1) #[.int .i64 s.kd, .int .u8 (s.cd : Int), .int .u8 (s.mr : Int), .slice none 0 0, .string s.it, .slice none 0 0])
    generalize w1.setRow (w.heap.size + 1) #[.int .i64 s.kd, .int .u8 (s.cd : Int), .int .u8 (s.mr : Int), .slice none 0 0, .string s.it, .slice none 0 0] = w2 at *
    clear HE q39 w1
    obtain ⟨i1, hj0, hj1, hj2, hj3⟩ := info_parts info_int
    have HJ := Lib.hid (And.intro hj0 (And.intro hj1 (And.intro hj2 hj3)))
    obtain ⟨i0, hi0, hi1, hi2, hi3⟩ := info_u8
    have HI := Lib.hid (And.intro hi0 (And.intro hi1 (And.intro hi2 hi3)))
    have HL := Lib.hid (fun W h => listP_any g s W h)
    have HLn : Hid ((s.fs.take 30).length ≤ 30) := Lib.hid (by simp; omega)
    have HDn := Lib.hid HE2.out.prs.ok.ds
    have HPs := Lib.hid (fun w' (h : Only [w.heap.size + 1] w2 w') => (⟨h.blk HE2.out.prs.blk (by have := HE2.out.gl; simp; omega), HE2.out.prs.ok⟩ : PsB w' g s))
    have HRd : Hid (∀ w', PsB w' g s → Reads w' w'.heap.size 1 (some ⟨g, 40, none⟩) s.ds.length (s.ds.map fun (n : Nat) => Value.int .u8 (n : Int))) := Lib.hid (fun w' h => ⟨by simp, fun _ => ⟨⟨g, 40, none⟩, rfl, h.lt, fun j u hu => by
      rw [Addr.add_mid]
      have hj : j < s.ds.length := by simpa using (List.getElem?_eq_some_iff.1 hu).1
      refine h.at_ _ _ ((cell_ds s j hj).trans ?_)
      rw [← hu]; simp [hj]⟩⟩)
    have HH := Lib.hid (fun w' (h : PsB w' g s) => h.at_ 38 _ (cell_held s))
    unfold isTk at HE2
    clear hj0 hj1 hj2 hj3 hi0 hi1 hi2 hi3
    generalize hL : s.fs.take 30 = L at *
    generalize hD : s.ds = D at *
    have HQ := Lib.hid (And.intro hL hD)
    clear hL hD
    have hn1 : ((D.length : Int) ≤ 4096) = True := eq_true (by have := HDn.out; omega)
    have hn0 : (0 : Int) ≤ (D.length : Int) := by omega
    refine wp_region_mix_lit (by kernel_rfl) [(6, .letter (SlcP L.length) (OwnF 3 w2.heap.size L.length (L.map (Value.int .i64)))), (7, .letter (SlcP L.length) (OwnF 3 w2.heap.size L.length (L.map (Value.int .i64)))), (9, .store (w.heap.size + 1) 29 #[.int .i64 s.kd, .int .u8 (s.cd : Int), .int .u8 (s.mr : Int), .slice none 0 0, .string s.it, .slice none 0 0] (fun β => #[.int .i64 s.kd, .int .u8 (s.cd : Int), .int .u8 (s.mr : Int), β 7, .string s.it, .slice none 0 0]))] (by kernel_rfl) (by kernel_rfl) (by kernel_rfl) (by rfl) (by simp [apartK] <;> omega) (by simp [startK]; exact HE2.out.three) (by simp only [List.forall_mem_cons, stabK]; exact ⟨own_stab _ _ _ _ _ rfl, own_stab _ _ _ _ _ rfl, trivial, by simp⟩) (⟨fun i => .slice none L.length L.length, by simp only [List.forall_mem_cons, okK]; exact ⟨⟨none, _, rfl, Nat.le_refl _⟩, ⟨none, _, rfl, Nat.le_refl _⟩, trivial, by simp⟩⟩) (fun β hβ => ?_)
    obtain ⟨A6, c6, e6, hc6⟩ := (hβ 6 : SlcP L.length (β 6))
    obtain ⟨A7, c7, e7, hc7⟩ := (hβ 7 : SlcP L.length (β 7))
    repeat (
      refine lex_val (v := ?_) rfl rfl (fun w' hf => ?_) ?_
      rotate_left
      · obtain ⟨a0, a1, a2, a3, a4, a5⟩ := six (hf.old 9 _ _ _ _ rfl (by kernel_rfl)); go_simp
        try rfl
      try simp only [Act.put, List.setIfInBounds_toArray, List.set_cons_zero, List.set_cons_succ])
    refine lex_letter (f := 97) (args := ?_) rfl rfl (fun w' hf => ?_) (fun w' hf => ?_) ?_
    rotate_left
    · go_simp
      try rfl
    · exact (HL.out w' (HPs.out w' hf.only)).mono (fun e w'' ⟨v, h1, h2, h3⟩ => ⟨v, h1, own_form h2, own_base (oints_own h2) hf.only.size, h3⟩)
    try simp only [Act.put, List.setIfInBounds_toArray, List.set_cons_zero, List.set_cons_succ]
    refine lex_made rfl rfl (fun w' hf => ?_) ?_
    · have hg : OwnF 3 w2.heap.size L.length (L.map (Value.int .i64)) (β 6) w' := hf.got 6 _ _ rfl (by kernel_rfl)
      rw [e6] at hg
      obtain ⟨v', w3, hrun, hown, hgr, _⟩ := run_append_any (P := Tryd.prog) w' w2.heap.size 27 27 3 i1 (.int .i64 0) 1 8 Tryd.underlying27 HJ.out.1 HJ.out.2.1 HJ.out.2.2.1 HJ.out.2.2.2 rfl (by decide) (.slice none 0 0) 0 [] (World.ownsRow_nil _ _ _ _) w'.heap.size A6 L.length c6 (L.map (Value.int .i64)) (Reads.of_own hg) (int_one L) (by have := HLn.out; unfold maxLen; omega) (by have := HLn.out; omega) hf.only.size
      rw [List.nil_append, Nat.zero_add] at hown
      exact ⟨v', w3, exec_append (.tmp 16) (.tmp 21) 27 rfl rfl e6 hrun, own_form hown, hown, ⟨hgr.os, hgr.tape, hgr.output, hgr.size, fun k hk => hgr.block k hk (by simp [Value.ownBlock])⟩⟩
    try simp only [Act.put, List.setIfInBounds_toArray, List.set_cons_zero, List.set_cons_succ]
    repeat (
      refine lex_val (v := ?_) rfl rfl (fun w' hf => ?_) ?_
      rotate_left
      · go_simp
        try rfl
      try simp only [Act.put, List.setIfInBounds_toArray, List.set_cons_zero, List.set_cons_succ])
    refine lex_store rfl rfl (fun w' hf hB => ⟨_, ?_, (Repl.set hB 3 (.slice A7 L.length c7)).as (by simp [e7])⟩) ?_
    · obtain ⟨z0, z1, z2, z3, z4, z5⟩ := six hB
      obtain ⟨f0, f1, f2, f3, f4, f5⟩ := six_fr hB
      rw [e7]
      go_simp
    try simp only [Act.put]
    refine lex_nil fun w3 he => ?_
    have ho : Only [w.heap.size + 1] w2 w3 := he.only
    have H7 := Lib.hid (own_base (show w3.ownsRow w2.heap.size 3 1 (β 7) L.length (L.map (Value.int .i64)) from (he.facts 7).2) (b' := w.heap.size + 2) HE2.out.lt)
    rw [e7] at H7
    have HE3 : Hid (EnW w w3 g s #[.int .i64 s.kd, .int .u8 (s.cd : Int), .int .u8 (s.mr : Int), .slice A7 L.length c7, .string s.it, .slice none 0 0]) := Lib.hid (by
      have hb : Blk w3 (w.heap.size + 1) 29 #[.int .i64 s.kd, .int .u8 (s.cd : Int), .int .u8 (s.mr : Int), β 7, .string s.it, .slice none 0 0] := he.facts 9
      rw [e7] at hb
      exact ⟨HPs.out w3 ho, ho.blk HE2.out.two (by simp), hb, HE2.out.bel.trans (ho.below HE2.out.bel.size (by simp)), Nat.le_trans HE2.out.lt ho.size, HE2.out.gl⟩)
    clear he ho hβ e6 hc6 e7 HE2 HPs HL
    have HPs := Lib.hid (fun w' (h : Only [w.heap.size + 1] w3 w') => (⟨h.blk HE3.out.prs.blk (by have := HE3.out.gl; simp; omega), HE3.out.prs.ok⟩ : PsB w' g s))
    (try simp only [Exit.then])
    go_upto_region 5 with fail
    refine wp_region_mix_lit (by kernel_rfl) [(11, .letter (SlcP D.length) (OwnF 5 w3.heap.size D.length (D.map fun (n : Nat) => Value.int .u8 (n : Int)))), (13, .store (w.heap.size + 1) 29 #[.int .i64 s.kd, .int .u8 (s.cd : Int), .int .u8 (s.mr : Int), .slice A7 L.length c7, .string s.it, .slice none 0 0] (fun β => #[.int .i64 s.kd, .int .u8 (s.cd : Int), .int .u8 (s.mr : Int), .slice A7 L.length c7, .string s.it, β 11]))] (by kernel_rfl) (by kernel_rfl) (by kernel_rfl) (by rfl) (by simp [apartK] <;> omega) (by simp [startK]; exact HE3.out.three) (by simp only [List.forall_mem_cons, stabK]; exact ⟨own_stab _ _ _ _ _ rfl, trivial, by simp⟩) (⟨fun i => .slice none D.length D.length, by simp only [List.forall_mem_cons, okK]; exact ⟨⟨none, _, rfl, Nat.le_refl _⟩, trivial, by simp⟩⟩) (fun β hβ => ?_)
    obtain ⟨A11, c11, e11, hc11⟩ := (hβ 11 : SlcP D.length (β 11))
    repeat (
      refine lex_val (v := ?_) rfl rfl (fun w' hf => ?_) ?_
      rotate_left
      · obtain ⟨a0, a1, a2, a3, a4, a5⟩ := six (hf.old 13 _ _ _ _ rfl (by kernel_rfl)); have q38 := HH.out w' (HPs.out w' hf.only); go_simp
        try rfl
      try simp only [Act.put, List.setIfInBounds_toArray, List.set_cons_zero, List.set_cons_succ])
    refine lex_made rfl rfl (fun w' hf => ?_) ?_
    · obtain ⟨v', w4, hrun, hown, hgr, _⟩ := run_append_any (P := Tryd.prog) w' w3.heap.size 24 24 5 i0 (.int .u8 0) 1 1 Tryd.underlying24 HI.out.1 HI.out.2.1 HI.out.2.2.1 HI.out.2.2.2 rfl (by decide) (.slice none 0 0) 0 [] (World.ownsRow_nil _ _ _ _) w'.heap.size (some ⟨g, 40, none⟩) D.length 4096 (D.map fun (n : Nat) => Value.int .u8 (n : Int)) (HRd.out w' (HPs.out w' hf.only)) (oby_one D) (by have := HDn.out; unfold maxLen; omega) (by have := HDn.out; omega) hf.only.size
      rw [List.nil_append, Nat.zero_add] at hown
      exact ⟨v', w4, exec_append (.tmp 25) (.tmp 34) 24 rfl rfl rfl hrun, own_form hown, hown, ⟨hgr.os, hgr.tape, hgr.output, hgr.size, fun k hk => hgr.block k hk (by simp [Value.ownBlock])⟩⟩
    try simp only [Act.put, List.setIfInBounds_toArray, List.set_cons_zero, List.set_cons_succ]
    repeat (
      refine lex_val (v := ?_) rfl rfl (fun w' hf => ?_) ?_
      rotate_left
      · go_simp
        try rfl
      try simp only [Act.put, List.setIfInBounds_toArray, List.set_cons_zero, List.set_cons_succ])
    refine lex_store rfl rfl (fun w' hf hB => ⟨_, ?_, (Repl.set hB 5 (.slice A11 D.length c11)).as (by simp [e11])⟩) ?_
    · obtain ⟨z0, z1, z2, z3, z4, z5⟩ := six hB
      obtain ⟨f0, f1, f2, f3, f4, f5⟩ := six_fr hB
      rw [e11]
      go_simp
    try simp only [Act.put]
    refine lex_nil fun w4 he => ?_
    have ho : Only [w.heap.size + 1] w3 w4 := he.only
    have hg34 := only_grown ho
    have H11 := Lib.hid (own_base (show w4.ownsRow w3.heap.size 5 1 (β 11) D.length (D.map fun (n : Nat) => Value.int .u8 (n : Int)) from (he.facts 11).2) (b' := w.heap.size + 2) HE3.out.lt)
    rw [e11] at H11
    have H7b : OInts w4 (w.heap.size + 2) (.slice A7 L.length c7) L := oi_keep (show OInts w3 (w.heap.size + 2) (.slice A7 L.length c7) L from H7.out) hg34 (fun k hk => by cases hk; omega)
    obtain ⟨X, hX⟩ : ∃ X : Array Value, X = #[.int .i64 s.kd, .int .u8 (s.cd : Int), .int .u8 (s.mr : Int), .slice A7 L.length c7, .string s.it, .slice A11 D.length c11] := ⟨_, rfl⟩
    have HE4 : Hid (EnW w w4 g s X) := Lib.hid (by
      have hb : Blk w4 (w.heap.size + 1) 29 #[.int .i64 s.kd, .int .u8 (s.cd : Int), .int .u8 (s.mr : Int), .slice A7 L.length c7, .string s.it, β 11] := he.facts 13
      rw [e11, ← hX] at hb
      exact ⟨HPs.out w4 ho, ho.blk HE3.out.two (by simp), hb, HE3.out.bel.trans (ho.below HE3.out.bel.size (by simp)), Nat.le_trans HE3.out.lt ho.size, HE3.out.gl⟩)
    have HO4 : Hid (OTk w4 (w.heap.size + 2) (.agg X) (endT s)) := Lib.hid (by
      have e : endT s = ⟨s.kd, s.cd, s.mr, L, s.it, D⟩ := by unfold endT; rw [hv, HQ.out.1, HQ.out.2]; rfl
      rw [e, hX]
      exact ⟨A7, c7, A11, c11, rfl, H7b, H11.out⟩)
    have hX1 : X.all (·.oneCell') = true := by rw [hX]; simp [Value.oneCell']
    have tkX : (Tryd.prog.info? 29).map (·.size) = some X.size := by rw [hX]; exact tkS6
    have hX6 : zTok.size = X.size := by subst hX; rfl
    clear he ho hβ e11 hc11 HE3 HPs hX H7b H7 H11 hg34 hn0 hn1 HRd HH
    (try simp only [Exit.then])
    go_wp2_with fail
    refine (HR.out _ HE4.out.prs).mono ?_
    rintro e w5 ⟨rfl, hp, hg⟩
    have hgl := HE4.out.gl
    have hlt := HE4.out.lt
    have B2 := Lib.hid (show Blk w5 w.heap.size 29 zTok from (hg.block _ (by omega) (by simp; omega)).trans HE4.out.two)
    have B3 := Lib.hid (show Blk w5 (w.heap.size + 1) 29 X from (hg.block _ (by omega) (by simp; omega)).trans HE4.out.three)
    have HO5 := Lib.hid (HO4.out.keep hg (fun k hk => by cases hk; omega))
    have HP := Lib.hid hp
    have HG := Lib.hid (grown_trans (show w.grownBy w4 (some g) from ⟨HE4.out.bel.os, HE4.out.bel.tape, HE4.out.bel.output, HE4.out.bel.size, fun k hk _ => HE4.out.bel.block k hk⟩) hg)
    clear hp hg HE4 HO4 hlt HR
    go_wp2_with (first | (refine wpList_load_row rfl _ _ rfl (w.heap.size + 1) rfl _ _ (0, 0) _ B3.out tkU rfl tkX ?_) | (refine wpList_store_row rfl _ _ _ rfl w.heap.size X rfl rfl _ _ B2.out tkX hX6 hX1 ?_))
    (try simp only [Exit.inBlock, Exit.then])
    have hb6 : Blk (w5.setRow w.heap.size X) w.heap.size 29 X := setRow_heap w5 _ _ _ _ _ B2.out
    have hg6 := grown_row w5 w.heap.size X
    have hgs := HG.out.size
    refine bodyPost_ret (results_cell_row rfl _ _ w.heap.size 29 X (0, 0) _ rfl hb6 tkU rfl tkX) rfl ⟨_, rfl, (HO5.out.keep hg6 (fun k hk => by cases hk; omega)).more (by omega), HP.out.grown hg6 (by omega), ?_⟩
    have hg7 := HG.out
    exact ⟨hg7.os, hg7.tape, hg7.output, Nat.le_trans hg7.size hg6.size, fun k hk hn => (row_far X (by omega)).trans (hg7.block k hk hn)⟩
  · rw [hv] at q39
    have HO4 : Hid (OTk w1 (w.heap.size + 2) (.agg zTok) (endT s)) := Lib.hid (by
      have e : endT s = tok0 := by unfold endT; rw [hv]; rfl
      rw [e]; exact otk0 _ _)
    have hX1 := zTok_one
    obtain ⟨X, hX⟩ : ∃ X : Array Value, X = zTok := ⟨_, rfl⟩
    rw [← hX] at HO4 hX1
    have HE4 : Hid (EnW w w1 g s X) := by rw [hX]; exact HE
    have tkX : (Tryd.prog.info? 29).map (·.size) = some X.size := by rw [hX]; exact tkS6
    have hX6 : zTok.size = X.size := by subst hX; rfl
    clear HE hX
    obtain ⟨w4, hw4⟩ : ∃ w4, w1 = w4 := ⟨_, rfl⟩
    rw [hw4] at HE4 HO4 q39 ⊢
    clear hw4 w1
    go_wp2_with fail
    refine (HR.out _ HE4.out.prs).mono ?_
    rintro e w5 ⟨rfl, hp, hg⟩
    have hgl := HE4.out.gl
    have hlt := HE4.out.lt
    have B2 := Lib.hid (show Blk w5 w.heap.size 29 zTok from (hg.block _ (by omega) (by simp; omega)).trans HE4.out.two)
    have B3 := Lib.hid (show Blk w5 (w.heap.size + 1) 29 X from (hg.block _ (by omega) (by simp; omega)).trans HE4.out.three)
    have HO5 := Lib.hid (HO4.out.keep hg (fun k hk => by cases hk; omega))
    have HP := Lib.hid hp
    have HG := Lib.hid (grown_trans (show w.grownBy w4 (some g) from ⟨HE4.out.bel.os, HE4.out.bel.tape, HE4.out.bel.output, HE4.out.bel.size, fun k hk _ => HE4.out.bel.block k hk⟩) hg)
    clear hp hg HE4 HO4 hlt HR
    go_wp2_with (first | (refine wpList_load_row rfl _ _ rfl (w.heap.size + 1) rfl _ _ (0, 0) _ B3.out tkU rfl tkX ?_) | (refine wpList_store_row rfl _ _ _ rfl w.heap.size X rfl rfl _ _ B2.out tkX hX6 hX1 ?_))
    (try simp only [Exit.inBlock, Exit.then])
    have hb6 : Blk (w5.setRow w.heap.size X) w.heap.size 29 X := setRow_heap w5 _ _ _ _ _ B2.out
    have hg6 := grown_row w5 w.heap.size X
    have hgs := HG.out.size
    refine bodyPost_ret (results_cell_row rfl _ _ w.heap.size 29 X (0, 0) _ rfl hb6 tkU rfl tkX) rfl ⟨_, rfl, (HO5.out.keep hg6 (fun k hk => by cases hk; omega)).more (by omega), HP.out.grown hg6 (by omega), ?_⟩
    have hg7 := HG.out
    exact ⟨hg7.os, hg7.tape, hg7.output, Nat.le_trans hg7.size hg6.size, fun k hk hn => (row_far X (by omega)).trans (hg7.block k hk hn)⟩
end Go.Proofs.YtpiliicphoacfaaDoor

/-
  The token that has ended.
  A parser's steps.
  A parser's steps, on.
  A parser's steps outside, and in a text.
  A parser's steps by a table.
-/
import Derived.Test.YtfnamfkjbkhgeaaGreatDoorPrsF
import Derived.Test.YtfnamfkjbkhgeaaGreatDoorTokP
import Derived.Deep.RegionWith
namespace Go.Proofs.YtfnamfkjbkhgeaaGreatDoor

open Go Go.RowKit

/-- What is read at a call's end out of a box of its own. -/
theorem row_far {w : World} {b : Nat} (y : Array Value) {k : Nat} (hk : k ≠ b) : (w.setRow b y).heap[k]? = w.heap[k]? := by
  show (w.heap.modify b _)[k]? = _
  rw [Array.getElem?_modify, if_neg (fun e => hk e.symm)]
theorem grown_row (w : World) (b : Nat) (y : Array Value) : w.grownBy (w.setRow b y) (some b) := ⟨rfl, rfl, rfl, by simp [World.setRow], fun k _ hn => row_far y (fun e => hn (by rw [e]))⟩
/-- A token of memory of its own. -/
def OTk (w : World) (base : Nat) (v : Value) (t : Tok) : Prop := ∃ A c B d, v = .agg (t.cs A c B d) ∧ OInts w base (.slice A t.ps.length c) t.ps ∧ OByt w base (.slice B t.dt.length d) t.dt
theorem oi_keep {w w' : World} {base : Nat} {v : Value} {l : List Int} {row : Option Nat} (h : OInts w base v l) (hg : w.grownBy w' row) (hr : ∀ k, row = some k → k < base) : OInts w' base v l :=
  World.ownsRow.kept (row := row) h hg (by
    rcases hk : v.ownBlock with _ | k
    · exact .inl rfl
    · right; intro e; have h1 := (World.ownsRow.lt (oints_own h) k hk).1; have h2 := hr k e.symm; omega)
theorem ob_keep {w w' : World} {base : Nat} {v : Value} {l : List Nat} {row : Option Nat} (h : OByt w base v l) (hg : w.grownBy w' row) (hr : ∀ k, row = some k → k < base) : OByt w' base v l :=
  World.ownsRow.kept (row := row) h hg (by
    rcases hk : v.ownBlock with _ | k
    · exact .inl rfl
    · right; intro e; have h1 := (World.ownsRow.lt (obyt_own h) k hk).1; have h2 := hr k e.symm; omega)
theorem OTk.keep {w w' : World} {base : Nat} {v : Value} {t : Tok} {row : Option Nat} (h : OTk w base v t) (hg : w.grownBy w' row) (hr : ∀ k, row = some k → k < base) : OTk w' base v t := by
  obtain ⟨A, c, B, d, e, h1, h2⟩ := h
  exact ⟨A, c, B, d, e, oi_keep h1 hg hr, ob_keep h2 hg hr⟩
theorem OTk.more {w : World} {b b' : Nat} {v : Value} {t : Tok} (h : OTk w b v t) (hb : b' ≤ b) : OTk w b' v t := by
  obtain ⟨A, c, B, d, e, h1, h2⟩ := h
  exact ⟨A, c, B, d, e, own_base h1 hb, own_base h2 hb⟩
def tok0 : Tok := ⟨0, 0, 0, [], ⟨#[]⟩, []⟩
theorem otk0 (w : World) (b : Nat) : OTk w b (.agg zTok) tok0 := ⟨none, 0, none, 0, rfl, World.ownsRow_nil _ _ _ _, World.ownsRow_nil _ _ _ _⟩
/-- What a call of a parser's steps leaves. -/
def TkQ (w : World) (g : Nat) (r : Ps × Tok) (e : Ending) (w' : World) : Prop := ∃ v, e = .returned v ∧ OTk w' w.heap.size v r.2 ∧ PsB w' g r.1 ∧ w.grownBy w' (some g)
def endT (s : Ps) : Tok := if s.vo then tok0 else ⟨s.kd, s.cd, s.mr, s.fs.take 30, s.it, s.ds⟩
theorem tkU : Tryz.prog.underlying 66 = some (.struct (Tryz.prog.fieldsOf 66)) := by kernel_rfl
theorem tkS6 : (Tryz.prog.info? 66).map (·.size) = some 6 := by kernel_rfl
theorem zTok_one : zTok.all (·.oneCell') = true := by simp [zTok, Value.oneCell']
/-- What is known in the midst of an end. -/
structure EnW (w W : World) (g : Nat) (s : Ps) (x : Array Value) : Prop where
  prs : PsB W g s
  two : Blk W w.heap.size 66 zTok
  three : Blk W (w.heap.size + 1) 66 x
  bel : Below w.heap.size w W
  lt : w.heap.size + 2 ≤ W.heap.size
  gl : g < w.heap.size
theorem EnW.set {w W : World} {g : Nat} {s : Ps} {x : Array Value} (h : EnW w W g s x) (y : Array Value) : EnW w (W.setRow (w.heap.size + 1) y) g s y := by
  have hfar : ∀ k, k ≠ w.heap.size + 1 → (W.setRow (w.heap.size + 1) y).heap[k]? = W.heap[k]? := fun k hk => by
    show (W.heap.modify (w.heap.size + 1) _)[k]? = _
    rw [Array.getElem?_modify, if_neg (fun e => hk e.symm)]
  refine ⟨⟨(hfar g (by have := h.gl; omega)).trans h.prs.blk, h.prs.ok⟩, (hfar _ (by omega)).trans h.two, setRow_heap W _ _ _ _ _ h.three, ⟨h.bel.os, h.bel.tape, h.bel.output, by simpa [World.setRow] using h.bel.size, fun k hk => (hfar k (by omega)).trans (h.bel.block k hk)⟩, by simpa [World.setRow] using h.lt, h.gl⟩
def isTk (s : Ps) : Array Value := #[.int .i64 s.kd, .int .u8 (s.cd : Int), .int .u8 (s.mr : Int), .slice none 0 0, .string s.it, .slice none 0 0]
theorem rng_is {w : World} {g : Nat} {s : Ps} (h : PsB w g s) : w.rangeAt g 1 (isTk s).toList := fun j v hv => by
  have hj : j < 6 := (List.getElem?_eq_some_iff.1 hv).1
  apply h.at_
  rw [← hv]
  rcases j with _ | _ | _ | _ | _ | _ | j
  · rfl
  · rfl
  · rfl
  · rfl
  · rfl
  · rfl
  · omega
theorem only_grown {b : Nat} {w W : World} (h : Only [b] w W) : w.grownBy W (some b) := ⟨h.os, h.tape, h.output, h.size, fun k hk hn => h.block k hk (by simp only [List.mem_singleton]; intro e; exact hn (by rw [e]))⟩
set_option maxRecDepth 100000 in
set_option maxHeartbeats 16000000 in
theorem end_any (g : Nat) (s : Ps) (w : World) (h : PsB w g s) :
    Calls Tryz.prog 180 #[.pointer (some ⟨g, 0, none⟩)] w (TkQ w g (ps0, endT s)) := by
  have hw0 : Below w.heap.size w ((w.alloc (.cells zTok 66)).alloc (.cells zTok 66)) := ((Below.refl _ w).alloc (Nat.le_refl _) _).alloc (by simp) _
  have b2 := (Blk.new w 66 zTok).alloc (.cells zTok 66)
  have b3 := Blk.new (w.alloc (.cells zTok 66)) 66 zTok
  rw [World.size_alloc] at b3
  have HE : Hid (EnW w ((w.alloc (.cells zTok 66)).alloc (.cells zTok 66)) g s zTok) := Lib.hid ⟨h.next hw0, b2, b3, hw0, by simp, h.lt⟩
  have HR := Lib.hid (fun W h => reset_any g s W h)
  clear hw0 b2 b3 h
  go_enter Tryz.func180, Tryz.ntmps180
  go_upto_region 2 with fail
  change Hid (EnW w ((w.alloc (.cells #[.int .i64 0, .int .u8 0, .int .u8 0, .slice none 0 0, .string ⟨#[]⟩, .slice none 0 0] 66)).alloc (.cells #[.int .i64 0, .int .u8 0, .int .u8 0, .slice none 0 0, .string ⟨#[]⟩, .slice none 0 0] 66)) g s zTok) at HE
  generalize (w.alloc (.cells #[.int .i64 0, .int .u8 0, .int .u8 0, .slice none 0 0, .string ⟨#[]⟩, .slice none 0 0] 66)).alloc (.cells #[.int .i64 0, .int .u8 0, .int .u8 0, .slice none 0 0, .string ⟨#[]⟩, .slice none 0 0] 66) = w1 at *
  have q39 := HE.out.prs.at_ 39 _ (cell_void s)
  rcases hv : s.vo with _ | _
  · rw [hv] at q39
    go_upto_region 3 with fail
    go_wp2_with (first | (refine wpList_load_mid rfl 66 _ rfl g 1 rfl (isTk s).toList _ (rng_is HE.out.prs) tkU rfl tkS6 ?_) | (refine wpList_store_row rfl _ _ _ rfl (w.heap.size + 1) (isTk s) rfl rfl _ _ HE.out.three tkS6 rfl (by simp [isTk, Value.oneCell']) ?_))
    have HE2 : Hid (EnW w (w1.setRow (w.heap.size + 1) (isTk s)) g s (isTk s)) := Lib.hid (HE.out.set (isTk s))
    change Hid (EnW w (w1.setRow (w.heap.size + 1) #[.int .i64 s.kd, .int .u8 (s.cd : Int), .int .u8 (s.mr : Int), .slice none 0 0, .string s.it, .slice none 0 0]) g s (isTk s)) at HE2
    (try simp only [Exit.inBlock, Exit.then])
    change Code.wp _ _ _ _ (w1.setRow (w.heap.size + 1) #[.int .i64 s.kd, .int .u8 (s.cd : Int), .int .u8 (s.mr : Int), .slice none 0 0, .string s.it, .slice none 0 0])
    generalize w1.setRow (w.heap.size + 1) #[.int .i64 s.kd, .int .u8 (s.cd : Int), .int .u8 (s.mr : Int), .slice none 0 0, .string s.it, .slice none 0 0] = w2 at *
    clear HE q39 w1
    obtain ⟨i1, hj0, hj1, hj2, hj3⟩ := info_parts info_int
    have HJ := Lib.hid (And.intro hj0 (And.intro hj1 (And.intro hj2 hj3)))
    obtain ⟨i0, hi0, hi1, hi2, hi3⟩ := info_u8
    have HI := Lib.hid (And.intro hi0 (And.intro hi1 (And.intro hi2 hi3)))
    have HL := Lib.hid (fun W h => listP_any g s W h)
    have HLn : Hid ((s.fs.take 30).length ≤ 30) := Lib.hid (by simp; omega)
    have HDn := Lib.hid HE2.out.prs.ok.ds
    have HPs := Lib.hid (fun w' (h : Only [w.heap.size + 1] w2 w') => (⟨h.blk HE2.out.prs.blk (by have := HE2.out.gl; simp; omega), HE2.out.prs.ok⟩ : PsB w' g s))
    have HRd : Hid (∀ w', PsB w' g s → Reads w' w'.heap.size 1 (some ⟨g, 40, none⟩) s.ds.length (s.ds.map fun (n : Nat) => Value.int .u8 (n : Int))) := Lib.hid (fun w' h => ⟨by simp, fun _ => ⟨⟨g, 40, none⟩, rfl, h.lt, fun j u hu => by
      rw [Addr.add_mid]
      have hj : j < s.ds.length := by simpa using (List.getElem?_eq_some_iff.1 hu).1
      refine h.at_ _ _ ((cell_ds s j hj).trans ?_)
      rw [← hu]; simp [hj]⟩⟩)
    have HH := Lib.hid (fun w' (h : PsB w' g s) => h.at_ 38 _ (cell_held s))
    unfold isTk at HE2
    clear hj0 hj1 hj2 hj3 hi0 hi1 hi2 hi3
    generalize hL : s.fs.take 30 = L at *
    generalize hD : s.ds = D at *
    have HQ := Lib.hid (And.intro hL hD)
    clear hL hD
    have hn1 : ((D.length : Int) ≤ 4096) = True := eq_true (by have := HDn.out; omega)
    have hn0 : (0 : Int) ≤ (D.length : Int) := by omega
    refine wp_region_mix_lit (by kernel_rfl) [(6, .letter (SlcP L.length) (OwnF 3 w2.heap.size L.length (L.map (Value.int .i64)))), (7, .letter (SlcP L.length) (OwnF 3 w2.heap.size L.length (L.map (Value.int .i64)))), (9, .store (w.heap.size + 1) 66 #[.int .i64 s.kd, .int .u8 (s.cd : Int), .int .u8 (s.mr : Int), .slice none 0 0, .string s.it, .slice none 0 0] (fun β => #[.int .i64 s.kd, .int .u8 (s.cd : Int), .int .u8 (s.mr : Int), β 7, .string s.it, .slice none 0 0]))] (by kernel_rfl) (by kernel_rfl) (by kernel_rfl) (by rfl) (by simp [apartK] <;> omega) (by simp [startK]; exact HE2.out.three) (by simp only [List.forall_mem_cons, stabK]; exact ⟨own_stab _ _ _ _ _ rfl, own_stab _ _ _ _ _ rfl, trivial, by simp⟩) (⟨fun i => .slice none L.length L.length, by simp only [List.forall_mem_cons, okK]; exact ⟨⟨none, _, rfl, Nat.le_refl _⟩, ⟨none, _, rfl, Nat.le_refl _⟩, trivial, by simp⟩⟩) (fun β hβ => ?_)
    obtain ⟨A6, c6, e6, hc6⟩ := (hβ 6 : SlcP L.length (β 6))
    obtain ⟨A7, c7, e7, hc7⟩ := (hβ 7 : SlcP L.length (β 7))
    repeat (
      refine lex_val (v := ?_) rfl rfl (fun w' hf => ?_) ?_
      rotate_left
      · obtain ⟨a0, a1, a2, a3, a4, a5⟩ := six (hf.old 9 _ _ _ _ rfl (by kernel_rfl)); go_simp
        try rfl
      try simp only [Act.put, List.setIfInBounds_toArray, List.set_cons_zero, List.set_cons_succ])
    refine lex_letter (f := 91) (args := ?_) rfl rfl (fun w' hf => ?_) (fun w' hf => ?_) ?_
    rotate_left
    · go_simp
      try rfl
    · exact (HL.out w' (HPs.out w' hf.only)).mono (fun e w'' ⟨v, h1, h2, h3⟩ => ⟨v, h1, own_form h2, own_base (oints_own h2) hf.only.size, h3⟩)
    try simp only [Act.put, List.setIfInBounds_toArray, List.set_cons_zero, List.set_cons_succ]
    refine lex_made rfl rfl (fun w' hf => ?_) ?_
    · have hg : OwnF 3 w2.heap.size L.length (L.map (Value.int .i64)) (β 6) w' := hf.got 6 _ _ rfl (by kernel_rfl)
      rw [e6] at hg
      obtain ⟨v', w3, hrun, hown, hgr, _⟩ := run_append_any (P := Tryz.prog) w' w2.heap.size 64 64 3 i1 (.int .i64 0) 1 8 Tryz.underlying64 HJ.out.1 HJ.out.2.1 HJ.out.2.2.1 HJ.out.2.2.2 rfl (by decide) (.slice none 0 0) 0 [] (World.ownsRow_nil _ _ _ _) w'.heap.size A6 L.length c6 (L.map (Value.int .i64)) (Reads.of_own hg) (int_one L) (by have := HLn.out; unfold maxLen; omega) (by have := HLn.out; omega) hf.only.size
      rw [List.nil_append, Nat.zero_add] at hown
      exact ⟨v', w3, exec_append (.tmp 16) (.tmp 21) 64 rfl rfl e6 hrun, own_form hown, hown, ⟨hgr.os, hgr.tape, hgr.output, hgr.size, fun k hk => hgr.block k hk (by simp [Value.ownBlock])⟩⟩
    try simp only [Act.put, List.setIfInBounds_toArray, List.set_cons_zero, List.set_cons_succ]
    repeat (
      refine lex_val (v := ?_) rfl rfl (fun w' hf => ?_) ?_
      rotate_left
      · go_simp
        try rfl
      try simp only [Act.put, List.setIfInBounds_toArray, List.set_cons_zero, List.set_cons_succ])
    refine lex_store rfl rfl (fun w' hf hB => ⟨_, ?_, (Repl.set hB 3 (.slice A7 L.length c7)).as (by simp [e7])⟩) ?_
    · obtain ⟨z0, z1, z2, z3, z4, z5⟩ := six hB
      obtain ⟨f0, f1, f2, f3, f4, f5⟩ := six_fr hB
      rw [e7]
      go_simp
    try simp only [Act.put]
    refine lex_nil fun w3 he => ?_
    have ho : Only [w.heap.size + 1] w2 w3 := he.only
    have H7 := Lib.hid (own_base (show w3.ownsRow w2.heap.size 3 1 (β 7) L.length (L.map (Value.int .i64)) from (he.facts 7).2) (b' := w.heap.size + 2) HE2.out.lt)
    rw [e7] at H7
    have HE3 : Hid (EnW w w3 g s #[.int .i64 s.kd, .int .u8 (s.cd : Int), .int .u8 (s.mr : Int), .slice A7 L.length c7, .string s.it, .slice none 0 0]) := Lib.hid (by
      have hb : Blk w3 (w.heap.size + 1) 66 #[.int .i64 s.kd, .int .u8 (s.cd : Int), .int .u8 (s.mr : Int), β 7, .string s.it, .slice none 0 0] := he.facts 9
      rw [e7] at hb
      exact ⟨HPs.out w3 ho, ho.blk HE2.out.two (by simp), hb, HE2.out.bel.trans (ho.below HE2.out.bel.size (by simp)), Nat.le_trans HE2.out.lt ho.size, HE2.out.gl⟩)
    clear he ho hβ e6 hc6 e7 HE2 HPs HL
    have HPs := Lib.hid (fun w' (h : Only [w.heap.size + 1] w3 w') => (⟨h.blk HE3.out.prs.blk (by have := HE3.out.gl; simp; omega), HE3.out.prs.ok⟩ : PsB w' g s))
    (try simp only [Exit.then])
    go_upto_region 5 with fail
    refine wp_region_mix_lit (by kernel_rfl) [(11, .letter (SlcP D.length) (OwnF 5 w3.heap.size D.length (D.map fun (n : Nat) => Value.int .u8 (n : Int)))), (13, .store (w.heap.size + 1) 66 #[.int .i64 s.kd, .int .u8 (s.cd : Int), .int .u8 (s.mr : Int), .slice A7 L.length c7, .string s.it, .slice none 0 0] (fun β => #[.int .i64 s.kd, .int .u8 (s.cd : Int), .int .u8 (s.mr : Int), .slice A7 L.length c7, .string s.it, β 11]))] (by kernel_rfl) (by kernel_rfl) (by kernel_rfl) (by rfl) (by simp [apartK] <;> omega) (by simp [startK]; exact HE3.out.three) (by simp only [List.forall_mem_cons, stabK]; exact ⟨own_stab _ _ _ _ _ rfl, trivial, by simp⟩) (⟨fun i => .slice none D.length D.length, by simp only [List.forall_mem_cons, okK]; exact ⟨⟨none, _, rfl, Nat.le_refl _⟩, trivial, by simp⟩⟩) (fun β hβ => ?_)
    obtain ⟨A11, c11, e11, hc11⟩ := (hβ 11 : SlcP D.length (β 11))
    repeat (
      refine lex_val (v := ?_) rfl rfl (fun w' hf => ?_) ?_
      rotate_left
      · obtain ⟨a0, a1, a2, a3, a4, a5⟩ := six (hf.old 13 _ _ _ _ rfl (by kernel_rfl)); have q38 := HH.out w' (HPs.out w' hf.only); go_simp
        try rfl
      try simp only [Act.put, List.setIfInBounds_toArray, List.set_cons_zero, List.set_cons_succ])
    refine lex_made rfl rfl (fun w' hf => ?_) ?_
    · obtain ⟨v', w4, hrun, hown, hgr, _⟩ := run_append_any (P := Tryz.prog) w' w3.heap.size 63 63 5 i0 (.int .u8 0) 1 1 Tryz.underlying63 HI.out.1 HI.out.2.1 HI.out.2.2.1 HI.out.2.2.2 rfl (by decide) (.slice none 0 0) 0 [] (World.ownsRow_nil _ _ _ _) w'.heap.size (some ⟨g, 40, none⟩) D.length 4096 (D.map fun (n : Nat) => Value.int .u8 (n : Int)) (HRd.out w' (HPs.out w' hf.only)) (oby_one D) (by have := HDn.out; unfold maxLen; omega) (by have := HDn.out; omega) hf.only.size
      rw [List.nil_append, Nat.zero_add] at hown
      exact ⟨v', w4, exec_append (.tmp 25) (.tmp 34) 63 rfl rfl rfl hrun, own_form hown, hown, ⟨hgr.os, hgr.tape, hgr.output, hgr.size, fun k hk => hgr.block k hk (by simp [Value.ownBlock])⟩⟩
    try simp only [Act.put, List.setIfInBounds_toArray, List.set_cons_zero, List.set_cons_succ]
    repeat (
      refine lex_val (v := ?_) rfl rfl (fun w' hf => ?_) ?_
      rotate_left
      · go_simp
        try rfl
      try simp only [Act.put, List.setIfInBounds_toArray, List.set_cons_zero, List.set_cons_succ])
    refine lex_store rfl rfl (fun w' hf hB => ⟨_, ?_, (Repl.set hB 5 (.slice A11 D.length c11)).as (by simp [e11])⟩) ?_
    · obtain ⟨z0, z1, z2, z3, z4, z5⟩ := six hB
      obtain ⟨f0, f1, f2, f3, f4, f5⟩ := six_fr hB
      rw [e11]
      go_simp
    try simp only [Act.put]
    refine lex_nil fun w4 he => ?_
    have ho : Only [w.heap.size + 1] w3 w4 := he.only
    have hg34 := only_grown ho
    have H11 := Lib.hid (own_base (show w4.ownsRow w3.heap.size 5 1 (β 11) D.length (D.map fun (n : Nat) => Value.int .u8 (n : Int)) from (he.facts 11).2) (b' := w.heap.size + 2) HE3.out.lt)
    rw [e11] at H11
    have H7b : OInts w4 (w.heap.size + 2) (.slice A7 L.length c7) L := oi_keep (show OInts w3 (w.heap.size + 2) (.slice A7 L.length c7) L from H7.out) hg34 (fun k hk => by cases hk; omega)
    obtain ⟨X, hX⟩ : ∃ X : Array Value, X = #[.int .i64 s.kd, .int .u8 (s.cd : Int), .int .u8 (s.mr : Int), .slice A7 L.length c7, .string s.it, .slice A11 D.length c11] := ⟨_, rfl⟩
    have HE4 : Hid (EnW w w4 g s X) := Lib.hid (by
      have hb : Blk w4 (w.heap.size + 1) 66 #[.int .i64 s.kd, .int .u8 (s.cd : Int), .int .u8 (s.mr : Int), .slice A7 L.length c7, .string s.it, β 11] := he.facts 13
      rw [e11, ← hX] at hb
      exact ⟨HPs.out w4 ho, ho.blk HE3.out.two (by simp), hb, HE3.out.bel.trans (ho.below HE3.out.bel.size (by simp)), Nat.le_trans HE3.out.lt ho.size, HE3.out.gl⟩)
    have HO4 : Hid (OTk w4 (w.heap.size + 2) (.agg X) (endT s)) := Lib.hid (by
      have e : endT s = ⟨s.kd, s.cd, s.mr, L, s.it, D⟩ := by unfold endT; rw [hv, HQ.out.1, HQ.out.2]; rfl
      rw [e, hX]
      exact ⟨A7, c7, A11, c11, rfl, H7b, H11.out⟩)
    have hX1 : X.all (·.oneCell') = true := by rw [hX]; simp [Value.oneCell']
    have tkX : (Tryz.prog.info? 66).map (·.size) = some X.size := by rw [hX]; exact tkS6
    have hX6 : zTok.size = X.size := by subst hX; rfl
    clear he ho hβ e11 hc11 HE3 HPs hX H7b H7 H11 hg34 hn0 hn1 HRd HH
    (try simp only [Exit.then])
    go_wp2_with fail
    refine (HR.out _ HE4.out.prs).mono ?_
    rintro e w5 ⟨rfl, hp, hg⟩
    have hgl := HE4.out.gl
    have hlt := HE4.out.lt
    have B2 := Lib.hid (show Blk w5 w.heap.size 66 zTok from (hg.block _ (by omega) (by simp; omega)).trans HE4.out.two)
    have B3 := Lib.hid (show Blk w5 (w.heap.size + 1) 66 X from (hg.block _ (by omega) (by simp; omega)).trans HE4.out.three)
    have HO5 := Lib.hid (HO4.out.keep hg (fun k hk => by cases hk; omega))
    have HP := Lib.hid hp
    have HG := Lib.hid (grown_trans (show w.grownBy w4 (some g) from ⟨HE4.out.bel.os, HE4.out.bel.tape, HE4.out.bel.output, HE4.out.bel.size, fun k hk _ => HE4.out.bel.block k hk⟩) hg)
    clear hp hg HE4 HO4 hlt HR
    go_wp2_with (first | (refine wpList_load_row rfl _ _ rfl (w.heap.size + 1) rfl _ _ (0, 0) _ B3.out tkU rfl tkX ?_) | (refine wpList_store_row rfl _ _ _ rfl w.heap.size X rfl rfl _ _ B2.out tkX hX6 hX1 ?_))
    (try simp only [Exit.inBlock, Exit.then])
    have hb6 : Blk (w5.setRow w.heap.size X) w.heap.size 66 X := setRow_heap w5 _ _ _ _ _ B2.out
    have hg6 := grown_row w5 w.heap.size X
    have hgs := HG.out.size
    refine bodyPost_ret (results_cell_row rfl _ _ w.heap.size 66 X (0, 0) _ rfl hb6 tkU rfl tkX) rfl ⟨_, rfl, (HO5.out.keep hg6 (fun k hk => by cases hk; omega)).more (by omega), HP.out.grown hg6 (by omega), ?_⟩
    have hg7 := HG.out
    exact ⟨hg7.os, hg7.tape, hg7.output, Nat.le_trans hg7.size hg6.size, fun k hk hn => (row_far X (by omega)).trans (hg7.block k hk hn)⟩
  · rw [hv] at q39
    have HO4 : Hid (OTk w1 (w.heap.size + 2) (.agg zTok) (endT s)) := Lib.hid (by
      have e : endT s = tok0 := by unfold endT; rw [hv]; rfl
      rw [e]; exact otk0 _ _)
    have hX1 := zTok_one
    obtain ⟨X, hX⟩ : ∃ X : Array Value, X = zTok := ⟨_, rfl⟩
    rw [← hX] at HO4 hX1
    have HE4 : Hid (EnW w w1 g s X) := by rw [hX]; exact HE
    have tkX : (Tryz.prog.info? 66).map (·.size) = some X.size := by rw [hX]; exact tkS6
    have hX6 : zTok.size = X.size := by subst hX; rfl
    clear HE hX
    obtain ⟨w4, hw4⟩ : ∃ w4, w1 = w4 := ⟨_, rfl⟩
    rw [hw4] at HE4 HO4 q39 ⊢
    clear hw4 w1
    go_wp2_with fail
    refine (HR.out _ HE4.out.prs).mono ?_
    rintro e w5 ⟨rfl, hp, hg⟩
    have hgl := HE4.out.gl
    have hlt := HE4.out.lt
    have B2 := Lib.hid (show Blk w5 w.heap.size 66 zTok from (hg.block _ (by omega) (by simp; omega)).trans HE4.out.two)
    have B3 := Lib.hid (show Blk w5 (w.heap.size + 1) 66 X from (hg.block _ (by omega) (by simp; omega)).trans HE4.out.three)
    have HO5 := Lib.hid (HO4.out.keep hg (fun k hk => by cases hk; omega))
    have HP := Lib.hid hp
    have HG := Lib.hid (grown_trans (show w.grownBy w4 (some g) from ⟨HE4.out.bel.os, HE4.out.bel.tape, HE4.out.bel.output, HE4.out.bel.size, fun k hk _ => HE4.out.bel.block k hk⟩) hg)
    clear hp hg HE4 HO4 hlt HR
    go_wp2_with (first | (refine wpList_load_row rfl _ _ rfl (w.heap.size + 1) rfl _ _ (0, 0) _ B3.out tkU rfl tkX ?_) | (refine wpList_store_row rfl _ _ _ rfl w.heap.size X rfl rfl _ _ B2.out tkX hX6 hX1 ?_))
    (try simp only [Exit.inBlock, Exit.then])
    have hb6 : Blk (w5.setRow w.heap.size X) w.heap.size 66 X := setRow_heap w5 _ _ _ _ _ B2.out
    have hg6 := grown_row w5 w.heap.size X
    have hgs := HG.out.size
    refine bodyPost_ret (results_cell_row rfl _ _ w.heap.size 66 X (0, 0) _ rfl hb6 tkU rfl tkX) rfl ⟨_, rfl, (HO5.out.keep hg6 (fun k hk => by cases hk; omega)).more (by omega), HP.out.grown hg6 (by omega), ?_⟩
    have hg7 := HG.out
    exact ⟨hg7.os, hg7.tape, hg7.output, Nat.le_trans hg7.size hg6.size, fun k hk hn => (row_far X (by omega)).trans (hg7.block k hk hn)⟩
end Go.Proofs.YtfnamfkjbkhgeaaGreatDoor

namespace Go.Proofs.YtfnamfkjbkhgeaaGreatDoor

open Go Go.RowKit

/-- What is known in the midst of a step: the parser, the box of the answer. -/
structure TkW (w W : World) (g : Nat) (s : Ps) (x : Array Value) : Prop where
  prs : PsB W g s
  box : Blk W w.heap.size 66 x
  gro : w.grownBy W (some g)
  lt : w.heap.size < W.heap.size
  gl : g < w.heap.size
theorem TkW.start {w : World} {g : Nat} {s : Ps} (h : PsB w g s) : TkW w (w.alloc (.cells zTok 66)) g s zTok := by
  have hb : Below w.heap.size w (w.alloc (.cells zTok 66)) := (Below.refl _ w).alloc (Nat.le_refl _) _
  exact ⟨h.next hb, Blk.new w _ _, grown_below hb, by simp, h.lt⟩
theorem TkW.put {w W : World} {g : Nat} {s t : Ps} {x : Array Value} (h : TkW w W g s x) (k : Nat) (v : Value) (e : s.cells.set k v = t.cells) (ht : t.ok) : TkW w (W.setCell ⟨g, k, none⟩ v) g t x :=
  have hg : W.grownBy (W.setCell ⟨g, k, none⟩ v) (some g) := grown_set
  ⟨h.prs.put k v e ht, (hg.block _ h.lt (by have := h.gl; simp; omega)).trans h.box, grown_trans h.gro hg, Nat.lt_of_lt_of_le h.lt hg.size, h.gl⟩
theorem TkW.call {w W w' : World} {g : Nat} {s t : Ps} {x : Array Value} (h : TkW w W g s x) (hp : PsB w' g t) (hg : W.grownBy w' (some g)) : TkW w w' g t x :=
  ⟨hp, (hg.block _ h.lt (by have := h.gl; simp; omega)).trans h.box, grown_trans h.gro hg, Nat.lt_of_lt_of_le h.lt hg.size, h.gl⟩
theorem TkW.set {w W : World} {g : Nat} {s : Ps} {x : Array Value} (h : TkW w W g s x) (y : Array Value) : TkW w (W.setRow w.heap.size y) g s y :=
  ⟨⟨(row_far y (by have := h.gl; omega)).trans h.prs.blk, h.prs.ok⟩, setRow_heap W _ _ _ _ _ h.box, ⟨h.gro.os, h.gro.tape, h.gro.output, by simpa [World.setRow] using h.gro.size, fun k hk hn => (row_far y (by omega)).trans (h.gro.block k hk hn)⟩, by simpa [World.setRow] using h.lt, h.gl⟩
theorem TkW.more {w W w' : World} {g : Nat} {s : Ps} {x : Array Value} (h : TkW w W g s x) (hb : Below W.heap.size W w') : TkW w w' g s x := h.call (h.prs.next hb) (grown_below hb)
/-- The answer is laid into its box. -/
structure TkA (w W : World) (g : Nat) (r : Ps × Tok) (X : Array Value) : Prop where
  tk : TkW w W g r.1 zTok
  tok : OTk W (w.heap.size + 1) (.agg X) r.2
  one : X.all (·.oneCell') = true
  six : X.size = 6
theorem tk_cs_one (t : Tok) (A : Option Addr) (c : Nat) (B : Option Addr) (d : Nat) : (t.cs A c B d).all (·.oneCell') = true := by simp [Tok.cs, Value.oneCell']
theorem TkQ.open {W w' : World} {g : Nat} {r : Ps × Tok} {e : Ending} (h : TkQ W g r e w') {w : World} {s : Ps} (hk : TkW w W g s zTok) : ∃ X : Array Value, e = .returned (.agg X) ∧ TkA w w' g r X := by
  obtain ⟨v, rfl, ho, hp, hg⟩ := h
  obtain ⟨A, c, B, d, rfl, h1, h2⟩ := ho
  exact ⟨_, rfl, hk.call hp hg, OTk.more ⟨A, c, B, d, rfl, h1, h2⟩ hk.lt, tk_cs_one _ _ _ _ _, rfl⟩
theorem TkA.zero {w W : World} {g : Nat} {s : Ps} (h : TkW w W g s zTok) : TkA w W g (s, tok0) zTok := ⟨h, otk0 _ _, zTok_one, rfl⟩
theorem TkA.fin {w W : World} {g : Nat} {r : Ps × Tok} {X : Array Value} (h : TkA w W g r X) : TkQ w g r (.returned (.agg X)) (W.setRow w.heap.size X) := by
  have hs := h.tk.set X
  exact ⟨_, rfl, (h.tok.keep (grown_row W _ X) (fun k hk => by cases hk; omega)).more (by omega), hs.prs, hs.gro⟩
theorem TkA.ret {w W : World} {g : Nat} {r : Ps × Tok} {X : Array Value} (h : TkA w W g r X) (fn : Func) (p : Tmp) (hr : fn.results = #[.cell p 66]) (tmps : Array Value) (hp : tmps.getD p undef = .pointer (some ⟨w.heap.size, 0, none⟩)) : (results fn tmps).run Tryz.prog (W.setRow w.heap.size X) = .ok (.agg X) (W.setRow w.heap.size X) :=
  results_cell_row hr tmps _ w.heap.size 66 X (0, 0) _ hp (h.tk.set X).box tkU rfl (by rw [h.six]; exact tkS6)
def ctlT (c : Nat) : Tok := ⟨2, c, 0, [], ⟨#[]⟩, []⟩
def prtT (c : Nat) : Tok := ⟨1, c, 0, [], ⟨#[]⟩, []⟩
theorem otkC (w : World) (b c : Nat) : OTk w b (.agg #[.int .i64 2, .int .u8 (c : Int), .int .u8 0, .slice none 0 0, .string ⟨#[]⟩, .slice none 0 0]) (ctlT c) := ⟨none, 0, none, 0, rfl, World.ownsRow_nil _ _ _ _, World.ownsRow_nil _ _ _ _⟩
theorem otkP (w : World) (b c : Nat) : OTk w b (.agg #[.int .i64 1, .int .u8 (c : Int), .int .u8 0, .slice none 0 0, .string ⟨#[]⟩, .slice none 0 0]) (prtT c) := ⟨none, 0, none, 0, rfl, World.ownsRow_nil _ _ _ _, World.ownsRow_nil _ _ _ _⟩
theorem Ps.ok.to {s t : Ps} (h : s.ok) (e1 : t.fs = s.fs) (e2 : t.ds = s.ds) (e3 : t.it = s.it) : t.ok := ⟨by rw [e1]; exact h.fs, by rw [e2]; exact h.ds, by rw [e3]; exact h.it⟩
/-! What the steps do. -/
def takeCodeP (s : Ps) (c : Nat) : Ps × Tok := if s.kd = 5 then ({s with cd := c, pl := 6}, tok0) else (ps0, endT {s with cd := c})
def takeIntersP (s : Ps) (c : Nat) : Ps × Tok := if pCode c then takeCodeP s c else if pInter c then (takeInterP {s with pl := 5} c, tok0) else ({s with vo := true}, tok0)
def takeNumbersP (s : Ps) (c : Nat) : Ps × Tok := if okb (UInt8.ofNat c) then ({s with fs := stepF s.fs (UInt8.ofNat c)}, tok0) else takeIntersP s c
def takeFirstP (s : Ps) (c : Nat) : Ps × Tok := if pMark c then ({s with pl := 4, mr := c}, tok0) else takeNumbersP {s with pl := 4} c
def takeEscIntersP (s : Ps) (c : Nat) : Ps × Tok := if pInter c then (takeInterP {s with pl := 2} c, tok0) else takeCodeP s c
def takeEscapedP (s : Ps) (c : Nat) : Ps × Tok :=
  if c = 91 then ({s with kd := 4, pl := 3}, tok0) else if c = 80 then ({s with kd := 5, pl := 3}, tok0) else if c = 93 then ({s with kd := 6, pl := 6}, tok0)
  else if c = 88 then ({s with kd := 7, pl := 6}, tok0) else if c = 94 then ({s with kd := 8, pl := 6}, tok0) else if c = 95 then ({s with kd := 9, pl := 6}, tok0)
  else if c = 92 then (ps0, tok0) else takeEscIntersP s c
def takeOutsideP (s : Ps) (c : Nat) : Ps × Tok := if c = 27 then (begP, tok0) else if c = 24 then (s, tok0) else if c < 32 then (s, ctlT c) else (s, prtT c)
def takeTextP (s : Ps) (c : Nat) : Ps × Tok := if c = 27 then ({s with pl := 7}, tok0) else if c = 7 ∧ s.kd = 6 then (ps0, endT s) else if pData c then (holdP s c, tok0) else (s, tok0)
theorem control_any (c : Nat) (w : World) : Calls Tryz.prog 154 #[.int .u8 (c : Int)] w fun e w' => e = .returned (.agg #[.int .i64 2, .int .u8 (c : Int), .int .u8 0, .slice none 0 0, .string ⟨#[]⟩, .slice none 0 0]) ∧ Below w.heap.size w w' := by
  obtain ⟨X, hX⟩ : ∃ X : Array Value, X = #[.int .i64 2, .int .u8 (c : Int), .int .u8 0, .slice none 0 0, .string ⟨#[]⟩, .slice none 0 0] := ⟨_, rfl⟩
  have HB : Hid (Blk (w.alloc (.cells zTok 66)) w.heap.size 66 zTok) := Lib.hid (Blk.new w _ _)
  have hb : Below w.heap.size w (w.alloc (.cells zTok 66)) := (Below.refl _ w).alloc (Nat.le_refl _) _
  have HL := Lib.hid hb
  clear hb
  unfold zTok at HB HL
  go_enter Tryz.func154, Tryz.ntmps154
  go_upto_region 1 with fail
  generalize w.alloc (.cells #[.int .i64 0, .int .u8 0, .int .u8 0, .slice none 0 0, .string ⟨#[]⟩, .slice none 0 0] 66) = w1 at *
  have hX1 : X.all (·.oneCell') = true := by rw [hX]; simp [Value.oneCell']
  have hXs : (Tryz.prog.info? 66).map (·.size) = some X.size := by rw [hX]; exact tkS6
  have hX6 : zTok.size = X.size := by subst hX; rfl
  have HX := Lib.hid hX
  clear hX
  go_wp2_with (refine wpList_store_row rfl _ _ _ rfl w.heap.size X rfl (by rw [HX.out]; rfl) _ _ HB.out hXs hX6 hX1 ?_)
  (try simp only [Exit.inBlock, Exit.then])
  rw [← HX.out]
  have hb2 : Blk (w1.setRow w.heap.size X) w.heap.size 66 X := setRow_heap w1 _ _ _ _ _ HB.out
  exact bodyPost_ret (results_cell_row rfl _ _ w.heap.size 66 X (0, 0) _ rfl hb2 tkU rfl hXs) rfl ⟨rfl, ⟨HL.out.os, HL.out.tape, HL.out.output, by simpa [World.setRow] using HL.out.size, fun k hk => (row_far X (by omega)).trans (HL.out.block k hk)⟩⟩
set_option maxRecDepth 100000 in
set_option maxHeartbeats 8000000 in
theorem takeCode_any (g : Nat) (s : Ps) (c : Nat) (w : World) (h : PsB w g s) :
    Calls Tryz.prog 176 #[.pointer (some ⟨g, 0, none⟩), .int .u8 (c : Int)] w (TkQ w g (takeCodeP s c)) := by
  have HT := Lib.hid (TkW.start h)
  have HE := Lib.hid (fun W (h : PsB W g {s with cd := c}) => end_any g {s with cd := c} W h)
  clear h
  unfold zTok at HT
  go_enter Tryz.func176, Tryz.ntmps176
  go_upto_region 1 with fail
  generalize w.alloc (.cells #[.int .i64 0, .int .u8 0, .int .u8 0, .slice none 0 0, .string ⟨#[]⟩, .slice none 0 0] 66) = w1 at *
  have f2 := HT.out.prs.blk.frozen 2
  have q2 := HT.out.prs.at_ 2 _ rfl
  go_upto_region 2 with fail
  have HT2 := Lib.hid (HT.out.put (t := {s with cd := c}) 2 (.int .u8 (c : Int)) rfl (HT.out.prs.ok.to rfl rfl rfl))
  generalize w1.setCell ⟨g, 2, none⟩ (.int .u8 (c : Int)) = w2 at *
  clear HT f2 q2 w1
  have q1 := HT2.out.prs.at_ 1 _ rfl
  have q0 := HT2.out.prs.at_ 0 _ rfl
  have f0 := HT2.out.prs.blk.frozen 0
  by_cases hk : s.kd = 5
  · simp only [hk] at q1
    go_upto_region 4 with fail
    have HT3 := Lib.hid (HT2.out.put (t := {s with cd := c, pl := 6}) 0 (.int .i64 6) rfl (HT2.out.prs.ok.to rfl rfl rfl))
    generalize w2.setCell ⟨g, 0, none⟩ (.int .i64 6) = w3 at *
    clear HT2 q0 q1 f0 w2
    have HA := Lib.hid (TkA.zero HT3.out)
    go_wp2_with (refine wpList_store_row rfl _ _ _ rfl w.heap.size zTok rfl rfl _ _ HA.out.tk.box tkS6 rfl zTok_one ?_)
    (try simp only [Exit.inBlock, Exit.then])
    exact bodyPost_ret (HA.out.ret _ _ rfl _ rfl) rfl (by unfold takeCodeP; rw [if_pos hk]; exact HA.out.fin)
  · have hkb : (s.kd == 5) = false := by simpa using hk
    clear q0 f0
    go_upto_region 5 with fail
    go_wp2_with fail
    refine (HE.out _ HT2.out.prs).mono ?_
    intro e w2 hq
    obtain ⟨X, rfl, ha⟩ := hq.open HT2.out
    have HA := Lib.hid ha
    clear ha hq
    have tkX : (Tryz.prog.info? 66).map (·.size) = some X.size := by rw [HA.out.six]; exact tkS6
    have tkX6 : zTok.size = X.size := by rw [HA.out.six]; rfl
    go_wp2_with (refine wpList_store_row rfl _ _ _ rfl w.heap.size X rfl rfl _ _ HA.out.tk.box tkX tkX6 HA.out.one ?_)
    (try simp only [Exit.inBlock, Exit.then])
    exact bodyPost_ret (HA.out.ret _ _ rfl _ rfl) rfl (by unfold takeCodeP; rw [if_neg hk]; exact HA.out.fin)
set_option maxRecDepth 100000 in
set_option maxHeartbeats 8000000 in
theorem takeInters_any (g : Nat) (s : Ps) (c : Nat) (w : World) (h : PsB w g s) :
    Calls Tryz.prog 150 #[.pointer (some ⟨g, 0, none⟩), .int .u8 (c : Int)] w (TkQ w g (takeIntersP s c)) := by
  have HT := Lib.hid (TkW.start h)
  have HC := Lib.hid (fun W (h : PsB W g s) => takeCode_any g s c W h)
  have HI := Lib.hid (fun (hc : 32 ≤ c ∧ c ≤ 47) W (h : PsB W g {s with pl := 5}) => takeInter_any g {s with pl := 5} c hc W h)
  clear h
  unfold zTok at HT
  go_enter Tryz.func150, Tryz.ntmps150
  go_upto_region 2 with fail
  generalize w.alloc (.cells #[.int .i64 0, .int .u8 0, .int .u8 0, .slice none 0 0, .string ⟨#[]⟩, .slice none 0 0] 66) = w1 at *
  rcases h1 : pCode c with _ | _
  · rcases h2 : pInter c with _ | _
    · have q39 := HT.out.prs.at_ 39 _ (cell_void s)
      have f39 := HT.out.prs.blk.frozen 39
      go_wp2_with fail
      refine (pCode_any c _).mono ?_
      rintro e w2 ⟨rfl, rfl⟩
      rw [h1]
      go_wp2_with fail
      refine (pInter_any c _).mono ?_
      rintro e w3 ⟨rfl, rfl⟩
      rw [h2]
      go_upto_region 7 with fail
      have HT3 := Lib.hid (HT.out.put (t := {s with vo := true}) 39 (.bool true) (set_vo s true) (HT.out.prs.ok.to rfl rfl rfl))
      generalize w3.setCell ⟨g, 39, none⟩ (.bool true) = w4 at *
      clear HT q39 f39
      have HA := Lib.hid (TkA.zero HT3.out)
      go_wp2_with (refine wpList_store_row rfl _ _ _ rfl w.heap.size zTok rfl rfl _ _ HA.out.tk.box tkS6 rfl zTok_one ?_)
      (try simp only [Exit.inBlock, Exit.then])
      exact bodyPost_ret (HA.out.ret _ _ rfl _ rfl) rfl (by unfold takeIntersP; rw [h1, h2]; exact HA.out.fin)
    · have hcc : 32 ≤ c ∧ c ≤ 47 := by simpa [pInter] using h2
      have q0 := HT.out.prs.at_ 0 _ rfl
      have f0 := HT.out.prs.blk.frozen 0
      go_wp2_with fail
      refine (pCode_any c _).mono ?_
      rintro e w2 ⟨rfl, rfl⟩
      rw [h1]
      go_wp2_with fail
      refine (pInter_any c _).mono ?_
      rintro e w3 ⟨rfl, rfl⟩
      rw [h2]
      go_upto_region 6 with fail
      have HT3 := Lib.hid (HT.out.put (t := {s with pl := 5}) 0 (.int .i64 5) rfl (HT.out.prs.ok.to rfl rfl rfl))
      generalize w3.setCell ⟨g, 0, none⟩ (.int .i64 5) = w4 at *
      clear HT q0 f0
      go_wp2_with fail
      refine (HI.out hcc _ HT3.out.prs).mono ?_
      rintro e w5 ⟨rfl, hp, hg⟩
      have HT5 := Lib.hid (HT3.out.call hp hg)
      clear hp hg HT3
      have HA := Lib.hid (TkA.zero HT5.out)
      go_wp2_with (refine wpList_store_row rfl _ _ _ rfl w.heap.size zTok rfl rfl _ _ HA.out.tk.box tkS6 rfl zTok_one ?_)
      (try simp only [Exit.inBlock, Exit.then])
      exact bodyPost_ret (HA.out.ret _ _ rfl _ rfl) rfl (by unfold takeIntersP; rw [h1, h2]; exact HA.out.fin)
  · go_wp2_with fail
    refine (pCode_any c _).mono ?_
    rintro e w2 ⟨rfl, rfl⟩
    rw [h1]
    go_upto_region 3 with fail
    go_wp2_with fail
    refine (HC.out _ HT.out.prs).mono ?_
    intro e w2 hq
    obtain ⟨X, rfl, ha⟩ := hq.open HT.out
    have HA := Lib.hid ha
    clear ha hq
    have tkX : (Tryz.prog.info? 66).map (·.size) = some X.size := by rw [HA.out.six]; exact tkS6
    have tkX6 : zTok.size = X.size := by rw [HA.out.six]; rfl
    go_wp2_with (refine wpList_store_row rfl _ _ _ rfl w.heap.size X rfl rfl _ _ HA.out.tk.box tkX tkX6 HA.out.one ?_)
    (try simp only [Exit.inBlock, Exit.then])
    exact bodyPost_ret (HA.out.ret _ _ rfl _ rfl) rfl (by unfold takeIntersP; rw [h1]; exact HA.out.fin)
end Go.Proofs.YtfnamfkjbkhgeaaGreatDoor

namespace Go.Proofs.YtfnamfkjbkhgeaaGreatDoor

open Go Go.RowKit

theorem u8_nat (c : Nat) (hc : c < 256) : ((UInt8.ofNat c).toNat : Int) = (c : Int) := by simp; omega
set_option maxRecDepth 100000 in
set_option maxHeartbeats 8000000 in
theorem takeNumbers_any (g : Nat) (s : Ps) (c : Nat) (hc : c < 256) (w : World) (h : PsB w g s) :
    Calls Tryz.prog 149 #[.pointer (some ⟨g, 0, none⟩), .int .u8 (c : Int)] w (TkQ w g (takeNumbersP s c)) := by
  have HT := Lib.hid (TkW.start h)
  have HC := Lib.hid (fun W (h : PsB W g s) => takeInters_any g s c W h)
  have hb0 := u8_nat c hc
  have HY : Hid (okb (UInt8.ofNat c) = true → ∀ W, PsB W g s → Calls Tryz.prog 90 #[.pointer (some ⟨g, 7, none⟩), .int .u8 (c : Int)] W fun e w' => e = .returned (.bool true) ∧ PsB w' g {s with fs := stepF s.fs (UInt8.ofNat c)} ∧ W.grownBy w' (some g)) := Lib.hid (fun hb W h => by
    have := byteP_yes g s (UInt8.ofNat c) hb W h
    rw [hb0] at this; exact this)
  have HN : Hid (okb (UInt8.ofNat c) = false → ∀ W, Calls Tryz.prog 90 #[.pointer (some ⟨g, 7, none⟩), .int .u8 (c : Int)] W fun e w' => e = .returned (.bool false) ∧ W = w') := Lib.hid (fun hb W => by
    have := byteP_no g (UInt8.ofNat c) hb W
    rw [hb0] at this; exact this)
  clear hb0
  clear h
  unfold zTok at HT
  go_enter Tryz.func149, Tryz.ntmps149
  go_upto_region 1 with fail
  generalize w.alloc (.cells #[.int .i64 0, .int .u8 0, .int .u8 0, .slice none 0 0, .string ⟨#[]⟩, .slice none 0 0] 66) = w1 at *
  rcases h1 : okb (UInt8.ofNat c) with _ | _
  · go_wp2_with fail
    refine (HN.out h1 _).mono ?_
    rintro e w2 ⟨rfl, rfl⟩
    go_upto_region 3 with fail
    go_wp2_with fail
    refine (HC.out _ HT.out.prs).mono ?_
    intro e w2 hq
    obtain ⟨X, rfl, ha⟩ := hq.open HT.out
    have HA := Lib.hid ha
    clear ha hq
    have tkX : (Tryz.prog.info? 66).map (·.size) = some X.size := by rw [HA.out.six]; exact tkS6
    have tkX6 : zTok.size = X.size := by rw [HA.out.six]; rfl
    go_wp2_with (refine wpList_store_row rfl _ _ _ rfl w.heap.size X rfl rfl _ _ HA.out.tk.box tkX tkX6 HA.out.one ?_)
    (try simp only [Exit.inBlock, Exit.then])
    exact bodyPost_ret (HA.out.ret _ _ rfl _ rfl) rfl (by unfold takeNumbersP; rw [h1]; exact HA.out.fin)
  · go_wp2_with fail
    refine (HY.out h1 _ HT.out.prs).mono ?_
    rintro e w2 ⟨rfl, hp, hg⟩
    have HT2 := Lib.hid (HT.out.call hp hg)
    clear hp hg HT
    have HA := Lib.hid (TkA.zero HT2.out)
    go_wp2_with (refine wpList_store_row rfl _ _ _ rfl w.heap.size zTok rfl rfl _ _ HA.out.tk.box tkS6 rfl zTok_one ?_)
    (try simp only [Exit.inBlock, Exit.then])
    exact bodyPost_ret (HA.out.ret _ _ rfl _ rfl) rfl (by unfold takeNumbersP; rw [h1]; exact HA.out.fin)
set_option maxRecDepth 100000 in
set_option maxHeartbeats 8000000 in
theorem takeFirst_any (g : Nat) (s : Ps) (c : Nat) (hc : c < 256) (w : World) (h : PsB w g s) :
    Calls Tryz.prog 148 #[.pointer (some ⟨g, 0, none⟩), .int .u8 (c : Int)] w (TkQ w g (takeFirstP s c)) := by
  have HT := Lib.hid (TkW.start h)
  have HC := Lib.hid (fun W (h : PsB W g {s with pl := 4}) => takeNumbers_any g {s with pl := 4} c hc W h)
  clear h
  unfold zTok at HT
  go_enter Tryz.func148, Tryz.ntmps148
  go_upto_region 1 with fail
  generalize w.alloc (.cells #[.int .i64 0, .int .u8 0, .int .u8 0, .slice none 0 0, .string ⟨#[]⟩, .slice none 0 0] 66) = w1 at *
  have q0 := HT.out.prs.at_ 0 _ rfl
  have f0 := HT.out.prs.blk.frozen 0
  go_upto_region 2 with fail
  have HT2 := Lib.hid (HT.out.put (t := {s with pl := 4}) 0 (.int .i64 4) rfl (HT.out.prs.ok.to rfl rfl rfl))
  generalize w1.setCell ⟨g, 0, none⟩ (.int .i64 4) = w2 at *
  clear HT q0 f0 w1
  have q3 := HT2.out.prs.at_ 3 _ rfl
  have f3 := HT2.out.prs.blk.frozen 3
  go_wp2_with fail
  refine (pMark_any c _).mono ?_
  rintro e w3 ⟨rfl, rfl⟩
  rcases h1 : pMark c with _ | _
  · clear q3 f3
    go_upto_region 3 with fail
    go_wp2_with fail
    refine (HC.out _ HT2.out.prs).mono ?_
    intro e w2 hq
    obtain ⟨X, rfl, ha⟩ := hq.open HT2.out
    have HA := Lib.hid ha
    clear ha hq
    have tkX : (Tryz.prog.info? 66).map (·.size) = some X.size := by rw [HA.out.six]; exact tkS6
    have tkX6 : zTok.size = X.size := by rw [HA.out.six]; rfl
    go_wp2_with (refine wpList_store_row rfl _ _ _ rfl w.heap.size X rfl rfl _ _ HA.out.tk.box tkX tkX6 HA.out.one ?_)
    (try simp only [Exit.inBlock, Exit.then])
    exact bodyPost_ret (HA.out.ret _ _ rfl _ rfl) rfl (by unfold takeFirstP; rw [h1]; exact HA.out.fin)
  · go_upto_region 5 with fail
    have HT3 := Lib.hid (HT2.out.put (t := {s with pl := 4, mr := c}) 3 (.int .u8 (c : Int)) rfl (HT2.out.prs.ok.to rfl rfl rfl))
    generalize w3.setCell ⟨g, 3, none⟩ (.int .u8 (c : Int)) = w4 at *
    clear HT2 q3 f3
    have HA := Lib.hid (TkA.zero HT3.out)
    go_wp2_with (refine wpList_store_row rfl _ _ _ rfl w.heap.size zTok rfl rfl _ _ HA.out.tk.box tkS6 rfl zTok_one ?_)
    (try simp only [Exit.inBlock, Exit.then])
    exact bodyPost_ret (HA.out.ret _ _ rfl _ rfl) rfl (by unfold takeFirstP; rw [h1]; exact HA.out.fin)
set_option maxRecDepth 100000 in
set_option maxHeartbeats 8000000 in
theorem takeEscInters_any (g : Nat) (s : Ps) (c : Nat) (w : World) (h : PsB w g s) :
    Calls Tryz.prog 147 #[.pointer (some ⟨g, 0, none⟩), .int .u8 (c : Int)] w (TkQ w g (takeEscIntersP s c)) := by
  have HT := Lib.hid (TkW.start h)
  have HC := Lib.hid (fun W (h : PsB W g s) => takeCode_any g s c W h)
  have HI := Lib.hid (fun (hc : 32 ≤ c ∧ c ≤ 47) W (h : PsB W g {s with pl := 2}) => takeInter_any g {s with pl := 2} c hc W h)
  clear h
  unfold zTok at HT
  go_enter Tryz.func147, Tryz.ntmps147
  go_upto_region 1 with fail
  generalize w.alloc (.cells #[.int .i64 0, .int .u8 0, .int .u8 0, .slice none 0 0, .string ⟨#[]⟩, .slice none 0 0] 66) = w1 at *
  have q0 := HT.out.prs.at_ 0 _ rfl
  have f0 := HT.out.prs.blk.frozen 0
  go_wp2_with fail
  refine (pInter_any c _).mono ?_
  rintro e w3 ⟨rfl, rfl⟩
  rcases h1 : pInter c with _ | _
  · clear q0 f0
    go_upto_region 2 with fail
    go_wp2_with fail
    refine (HC.out _ HT.out.prs).mono ?_
    intro e w2 hq
    obtain ⟨X, rfl, ha⟩ := hq.open HT.out
    have HA := Lib.hid ha
    clear ha hq
    have tkX : (Tryz.prog.info? 66).map (·.size) = some X.size := by rw [HA.out.six]; exact tkS6
    have tkX6 : zTok.size = X.size := by rw [HA.out.six]; rfl
    go_wp2_with (refine wpList_store_row rfl _ _ _ rfl w.heap.size X rfl rfl _ _ HA.out.tk.box tkX tkX6 HA.out.one ?_)
    (try simp only [Exit.inBlock, Exit.then])
    exact bodyPost_ret (HA.out.ret _ _ rfl _ rfl) rfl (by unfold takeEscIntersP; rw [h1]; exact HA.out.fin)
  · have hcc : 32 ≤ c ∧ c ≤ 47 := by simpa [pInter] using h1
    go_upto_region 4 with fail
    have HT3 := Lib.hid (HT.out.put (t := {s with pl := 2}) 0 (.int .i64 2) rfl (HT.out.prs.ok.to rfl rfl rfl))
    generalize w3.setCell ⟨g, 0, none⟩ (.int .i64 2) = w4 at *
    clear HT q0 f0
    go_wp2_with fail
    refine (HI.out hcc _ HT3.out.prs).mono ?_
    rintro e w5 ⟨rfl, hp, hg⟩
    have HT5 := Lib.hid (HT3.out.call hp hg)
    clear hp hg HT3
    have HA := Lib.hid (TkA.zero HT5.out)
    go_wp2_with (refine wpList_store_row rfl _ _ _ rfl w.heap.size zTok rfl rfl _ _ HA.out.tk.box tkS6 rfl zTok_one ?_)
    (try simp only [Exit.inBlock, Exit.then])
    exact bodyPost_ret (HA.out.ret _ _ rfl _ rfl) rfl (by unfold takeEscIntersP; rw [h1]; exact HA.out.fin)
set_option maxRecDepth 100000 in
set_option maxHeartbeats 8000000 in
theorem takeEscaped_any (g : Nat) (s : Ps) (c : Nat) (w : World) (h : PsB w g s) :
    Calls Tryz.prog 146 #[.pointer (some ⟨g, 0, none⟩), .int .u8 (c : Int)] w (TkQ w g (takeEscapedP s c)) := by
  have HT := Lib.hid (TkW.start h)
  have HC := Lib.hid (fun W (h : PsB W g s) => takeEscInters_any g s c W h)
  have HR := Lib.hid (fun W (h : PsB W g s) => reset_any g s W h)
  have HG := Lib.hid (fun k p W (h : PsB W g s) => goOn_any g s k p W h)
  clear h
  unfold zTok at HT
  go_enter Tryz.func146, Tryz.ntmps146
  go_upto_region 1 with fail
  generalize w.alloc (.cells #[.int .i64 0, .int .u8 0, .int .u8 0, .slice none 0 0, .string ⟨#[]⟩, .slice none 0 0] 66) = w1 at *
  by_cases h91 : c = 91
  · subst h91
    go_wp2_with fail
    refine (HG.out 4 3 _ HT.out.prs).mono ?_
    rintro e w5 ⟨rfl, hp, hg⟩
    have HT5 := Lib.hid (HT.out.call hp hg)
    clear hp hg HT
    have HA := Lib.hid (TkA.zero HT5.out)
    go_wp2_with (refine wpList_store_row rfl _ _ _ rfl w.heap.size zTok rfl rfl _ _ HA.out.tk.box tkS6 rfl zTok_one ?_)
    (try simp only [Exit.inBlock, Exit.then])
    exact bodyPost_ret (HA.out.ret _ _ rfl _ rfl) rfl (by unfold takeEscapedP; simp only [reduceIte]; (try simp); exact HA.out.fin)
  have n91 : ((c : Int) == 91) = false := by simp; omega
  by_cases h80 : c = 80
  · subst h80
    go_wp2_with fail
    refine (HG.out 5 3 _ HT.out.prs).mono ?_
    rintro e w5 ⟨rfl, hp, hg⟩
    have HT5 := Lib.hid (HT.out.call hp hg)
    clear hp hg HT
    have HA := Lib.hid (TkA.zero HT5.out)
    go_wp2_with (refine wpList_store_row rfl _ _ _ rfl w.heap.size zTok rfl rfl _ _ HA.out.tk.box tkS6 rfl zTok_one ?_)
    (try simp only [Exit.inBlock, Exit.then])
    exact bodyPost_ret (HA.out.ret _ _ rfl _ rfl) rfl (by unfold takeEscapedP; simp only [reduceIte]; (try simp); exact HA.out.fin)
  have n80 : ((c : Int) == 80) = false := by simp; omega
  by_cases h93 : c = 93
  · subst h93
    go_wp2_with fail
    refine (HG.out 6 6 _ HT.out.prs).mono ?_
    rintro e w5 ⟨rfl, hp, hg⟩
    have HT5 := Lib.hid (HT.out.call hp hg)
    clear hp hg HT
    have HA := Lib.hid (TkA.zero HT5.out)
    go_wp2_with (refine wpList_store_row rfl _ _ _ rfl w.heap.size zTok rfl rfl _ _ HA.out.tk.box tkS6 rfl zTok_one ?_)
    (try simp only [Exit.inBlock, Exit.then])
    exact bodyPost_ret (HA.out.ret _ _ rfl _ rfl) rfl (by unfold takeEscapedP; simp only [reduceIte]; (try simp); exact HA.out.fin)
  have n93 : ((c : Int) == 93) = false := by simp; omega
  by_cases h88 : c = 88
  · subst h88
    go_wp2_with fail
    refine (HG.out 7 6 _ HT.out.prs).mono ?_
    rintro e w5 ⟨rfl, hp, hg⟩
    have HT5 := Lib.hid (HT.out.call hp hg)
    clear hp hg HT
    have HA := Lib.hid (TkA.zero HT5.out)
    go_wp2_with (refine wpList_store_row rfl _ _ _ rfl w.heap.size zTok rfl rfl _ _ HA.out.tk.box tkS6 rfl zTok_one ?_)
    (try simp only [Exit.inBlock, Exit.then])
    exact bodyPost_ret (HA.out.ret _ _ rfl _ rfl) rfl (by unfold takeEscapedP; simp only [reduceIte]; (try simp); exact HA.out.fin)
  have n88 : ((c : Int) == 88) = false := by simp; omega
  by_cases h94 : c = 94
  · subst h94
    go_wp2_with fail
    refine (HG.out 8 6 _ HT.out.prs).mono ?_
    rintro e w5 ⟨rfl, hp, hg⟩
    have HT5 := Lib.hid (HT.out.call hp hg)
    clear hp hg HT
    have HA := Lib.hid (TkA.zero HT5.out)
    go_wp2_with (refine wpList_store_row rfl _ _ _ rfl w.heap.size zTok rfl rfl _ _ HA.out.tk.box tkS6 rfl zTok_one ?_)
    (try simp only [Exit.inBlock, Exit.then])
    exact bodyPost_ret (HA.out.ret _ _ rfl _ rfl) rfl (by unfold takeEscapedP; simp only [reduceIte]; (try simp); exact HA.out.fin)
  have n94 : ((c : Int) == 94) = false := by simp; omega
  by_cases h95 : c = 95
  · subst h95
    go_wp2_with fail
    refine (HG.out 9 6 _ HT.out.prs).mono ?_
    rintro e w5 ⟨rfl, hp, hg⟩
    have HT5 := Lib.hid (HT.out.call hp hg)
    clear hp hg HT
    have HA := Lib.hid (TkA.zero HT5.out)
    go_wp2_with (refine wpList_store_row rfl _ _ _ rfl w.heap.size zTok rfl rfl _ _ HA.out.tk.box tkS6 rfl zTok_one ?_)
    (try simp only [Exit.inBlock, Exit.then])
    exact bodyPost_ret (HA.out.ret _ _ rfl _ rfl) rfl (by unfold takeEscapedP; simp only [reduceIte]; (try simp); exact HA.out.fin)
  have n95 : ((c : Int) == 95) = false := by simp; omega
  by_cases h92 : c = 92
  · subst h92
    go_wp2_with fail
    refine (HR.out _ HT.out.prs).mono ?_
    rintro e w5 ⟨rfl, hp, hg⟩
    have HT5 := Lib.hid (HT.out.call hp hg)
    clear hp hg HT
    have HA := Lib.hid (TkA.zero HT5.out)
    go_wp2_with (refine wpList_store_row rfl _ _ _ rfl w.heap.size zTok rfl rfl _ _ HA.out.tk.box tkS6 rfl zTok_one ?_)
    (try simp only [Exit.inBlock, Exit.then])
    exact bodyPost_ret (HA.out.ret _ _ rfl _ rfl) rfl (by unfold takeEscapedP; simp only [reduceIte]; (try simp); exact HA.out.fin)
  have n92 : ((c : Int) == 92) = false := by simp; omega
  go_upto_region 2 with fail
  go_wp2_with fail
  refine (HC.out _ HT.out.prs).mono ?_
  intro e w2 hq
  obtain ⟨X, rfl, ha⟩ := hq.open HT.out
  have HA := Lib.hid ha
  clear ha hq
  have tkX : (Tryz.prog.info? 66).map (·.size) = some X.size := by rw [HA.out.six]; exact tkS6
  have tkX6 : zTok.size = X.size := by rw [HA.out.six]; rfl
  go_wp2_with (refine wpList_store_row rfl _ _ _ rfl w.heap.size X rfl rfl _ _ HA.out.tk.box tkX tkX6 HA.out.one ?_)
  (try simp only [Exit.inBlock, Exit.then])
  exact bodyPost_ret (HA.out.ret _ _ rfl _ rfl) rfl (by unfold takeEscapedP; rw [if_neg h91, if_neg h80, if_neg h93, if_neg h88, if_neg h94, if_neg h95, if_neg h92]; exact HA.out.fin)
end Go.Proofs.YtfnamfkjbkhgeaaGreatDoor

namespace Go.Proofs.YtfnamfkjbkhgeaaGreatDoor

open Go Go.RowKit

set_option maxRecDepth 100000 in
set_option maxHeartbeats 8000000 in
theorem takeOutside_any (g : Nat) (s : Ps) (c : Nat) (w : World) (h : PsB w g s) :
    Calls Tryz.prog 145 #[.pointer (some ⟨g, 0, none⟩), .int .u8 (c : Int)] w (TkQ w g (takeOutsideP s c)) := by
  have HT := Lib.hid (TkW.start h)
  have HB := Lib.hid (fun W (h : PsB W g s) => begin_any g s W h)
  clear h
  unfold zTok at HT
  go_enter Tryz.func145, Tryz.ntmps145
  go_upto_region 2 with fail
  generalize w.alloc (.cells #[.int .i64 0, .int .u8 0, .int .u8 0, .slice none 0 0, .string ⟨#[]⟩, .slice none 0 0] 66) = w1 at *
  by_cases h27 : c = 27
  · subst h27
    go_wp2_with fail
    refine (HB.out _ HT.out.prs).mono ?_
    rintro e w5 ⟨rfl, hp, hg⟩
    have HT5 := Lib.hid (HT.out.call hp hg)
    clear hp hg HT
    have HA := Lib.hid (TkA.zero HT5.out)
    go_wp2_with (refine wpList_store_row rfl _ _ _ rfl w.heap.size zTok rfl rfl _ _ HA.out.tk.box tkS6 rfl zTok_one ?_)
    (try simp only [Exit.inBlock, Exit.then])
    exact bodyPost_ret (HA.out.ret _ _ rfl _ rfl) rfl (by unfold takeOutsideP; rw [if_pos rfl]; exact HA.out.fin)
  have n27 : ((c : Int) == 27) = false := by simp; omega
  by_cases h24 : c = 24
  · subst h24
    go_upto_region 7 with fail
    have HA := Lib.hid (TkA.zero HT.out)
    go_wp2_with (refine wpList_store_row rfl _ _ _ rfl w.heap.size zTok rfl rfl _ _ HA.out.tk.box tkS6 rfl zTok_one ?_)
    (try simp only [Exit.inBlock, Exit.then])
    exact bodyPost_ret (HA.out.ret _ _ rfl _ rfl) rfl (by unfold takeOutsideP; rw [if_neg (by decide), if_pos rfl]; exact HA.out.fin)
  have n24 : ((c : Int) == 24) = false := by simp; omega
  by_cases h32 : c < 32
  · have l32 : ((c : Int) < 32) = True := eq_true (by omega)
    go_wp2_with fail
    refine (control_any c _).mono ?_
    rintro e w5 ⟨rfl, hb⟩
    have HA : Hid (TkA w w5 g (s, ctlT c) #[.int .i64 2, .int .u8 (c : Int), .int .u8 0, .slice none 0 0, .string ⟨#[]⟩, .slice none 0 0]) := Lib.hid ⟨HT.out.more hb, otkC _ _ _, by simp [Value.oneCell'], rfl⟩
    clear hb
    generalize hX : (#[.int .i64 2, .int .u8 (c : Int), .int .u8 0, .slice none 0 0, .string ⟨#[]⟩, .slice none 0 0] : Array Value) = X at *
    clear hX
    have tkX : (Tryz.prog.info? 66).map (·.size) = some X.size := by rw [HA.out.six]; exact tkS6
    have tkX6 : zTok.size = X.size := by rw [HA.out.six]; rfl
    go_wp2_with (refine wpList_store_row rfl _ _ _ rfl w.heap.size X rfl rfl _ _ HA.out.tk.box tkX tkX6 HA.out.one ?_)
    (try simp only [Exit.inBlock, Exit.then])
    exact bodyPost_ret (HA.out.ret _ _ rfl _ rfl) rfl (by unfold takeOutsideP; rw [if_neg h27, if_neg h24, if_pos h32]; exact HA.out.fin)
  have l32 : ((c : Int) < 32) = False := eq_false (by omega)
  have HA : Hid (TkA w w1 g (s, prtT c) #[.int .i64 1, .int .u8 (c : Int), .int .u8 0, .slice none 0 0, .string ⟨#[]⟩, .slice none 0 0]) := Lib.hid ⟨HT.out, otkP _ _ _, by simp [Value.oneCell'], rfl⟩
  go_wp2_with (refine wpList_store_row rfl _ _ _ rfl w.heap.size #[.int .i64 1, .int .u8 (c : Int), .int .u8 0, .slice none 0 0, .string ⟨#[]⟩, .slice none 0 0] rfl rfl _ _ HA.out.tk.box tkS6 rfl (by simp [Value.oneCell']) ?_)
  (try simp only [Exit.inBlock, Exit.then])
  exact bodyPost_ret (HA.out.ret _ _ rfl _ rfl) rfl (by unfold takeOutsideP; rw [if_neg h27, if_neg h24, if_neg h32]; exact HA.out.fin)
set_option maxRecDepth 100000 in
set_option maxHeartbeats 8000000 in
theorem takeText_any (g : Nat) (s : Ps) (c : Nat) (w : World) (h : PsB w g s) :
    Calls Tryz.prog 151 #[.pointer (some ⟨g, 0, none⟩), .int .u8 (c : Int)] w (TkQ w g (takeTextP s c)) := by
  have HT := Lib.hid (TkW.start h)
  have HE := Lib.hid (fun W (h : PsB W g s) => end_any g s W h)
  have HH := Lib.hid (fun W (h : PsB W g s) => hold_any g s c W h)
  clear h
  unfold zTok at HT
  go_enter Tryz.func151, Tryz.ntmps151
  go_upto_region 1 with fail
  generalize w.alloc (.cells #[.int .i64 0, .int .u8 0, .int .u8 0, .slice none 0 0, .string ⟨#[]⟩, .slice none 0 0] 66) = w1 at *
  have q0 := HT.out.prs.at_ 0 _ rfl
  have f0 := HT.out.prs.blk.frozen 0
  have q1 := HT.out.prs.at_ 1 _ rfl
  by_cases h27 : c = 27
  · subst h27
    go_upto_region 7 with fail
    have HT2 := Lib.hid (HT.out.put (t := {s with pl := 7}) 0 (.int .i64 7) rfl (HT.out.prs.ok.to rfl rfl rfl))
    generalize w1.setCell ⟨g, 0, none⟩ (.int .i64 7) = w2 at *
    clear HT q0 f0 q1
    have HA := Lib.hid (TkA.zero HT2.out)
    go_wp2_with (refine wpList_store_row rfl _ _ _ rfl w.heap.size zTok rfl rfl _ _ HA.out.tk.box tkS6 rfl zTok_one ?_)
    (try simp only [Exit.inBlock, Exit.then])
    exact bodyPost_ret (HA.out.ret _ _ rfl _ rfl) rfl (by unfold takeTextP; rw [if_pos rfl]; exact HA.out.fin)
  have n27 : ((c : Int) == 27) = false := by simp; omega
  clear q0 f0
  by_cases h7 : c = 7 ∧ s.kd = 6
  · obtain ⟨rfl, hk⟩ := h7
    rw [hk] at q1
    go_upto_region 4 with fail
    go_wp2_with fail
    refine (HE.out _ HT.out.prs).mono ?_
    intro e w2 hq
    obtain ⟨X, rfl, ha⟩ := hq.open HT.out
    have HA := Lib.hid ha
    clear ha hq
    have tkX : (Tryz.prog.info? 66).map (·.size) = some X.size := by rw [HA.out.six]; exact tkS6
    have tkX6 : zTok.size = X.size := by rw [HA.out.six]; rfl
    go_wp2_with (refine wpList_store_row rfl _ _ _ rfl w.heap.size X rfl rfl _ _ HA.out.tk.box tkX tkX6 HA.out.one ?_)
    (try simp only [Exit.inBlock, Exit.then])
    exact bodyPost_ret (HA.out.ret _ _ rfl _ rfl) rfl (by unfold takeTextP; rw [if_neg h27, if_pos ⟨rfl, hk⟩]; exact HA.out.fin)
  have HU : Hid (takeTextP s c = if pData c then (holdP s c, tok0) else (s, tok0)) := Lib.hid (by unfold takeTextP; rw [if_neg h27, if_neg h7])
  by_cases hc7 : c = 7
  · have hk : (s.kd == 6) = false := by simp; exact fun e => h7 ⟨hc7, e⟩
    have n7 : ((c : Int) == 7) = true := by simp; omega
    clear h7 h27 hc7
    go_upto_region 5 with fail
    go_wp2_with fail
    refine (pData_any c _).mono ?_
    rintro e w3 ⟨rfl, rfl⟩
    rcases hd : pData c with _ | _
    · go_upto_region 7 with fail
      have HA := Lib.hid (TkA.zero HT.out)
      go_wp2_with (refine wpList_store_row rfl _ _ _ rfl w.heap.size zTok rfl rfl _ _ HA.out.tk.box tkS6 rfl zTok_one ?_)
      (try simp only [Exit.inBlock, Exit.then])
      exact bodyPost_ret (HA.out.ret _ _ rfl _ rfl) rfl (by rw [HU.out, hd]; exact HA.out.fin)
    · go_wp2_with fail
      refine (HH.out _ HT.out.prs).mono ?_
      rintro e w5 ⟨rfl, hp, hg⟩
      have HT5 := Lib.hid (HT.out.call hp hg)
      clear hp hg HT
      have HA := Lib.hid (TkA.zero HT5.out)
      go_wp2_with (refine wpList_store_row rfl _ _ _ rfl w.heap.size zTok rfl rfl _ _ HA.out.tk.box tkS6 rfl zTok_one ?_)
      (try simp only [Exit.inBlock, Exit.then])
      exact bodyPost_ret (HA.out.ret _ _ rfl _ rfl) rfl (by rw [HU.out, hd]; exact HA.out.fin)
  · have n7 : ((c : Int) == 7) = false := by simp; omega
    clear h7 h27 hc7
    go_upto_region 5 with fail
    go_wp2_with fail
    refine (pData_any c _).mono ?_
    rintro e w3 ⟨rfl, rfl⟩
    rcases hd : pData c with _ | _
    · go_upto_region 7 with fail
      have HA := Lib.hid (TkA.zero HT.out)
      go_wp2_with (refine wpList_store_row rfl _ _ _ rfl w.heap.size zTok rfl rfl _ _ HA.out.tk.box tkS6 rfl zTok_one ?_)
      (try simp only [Exit.inBlock, Exit.then])
      exact bodyPost_ret (HA.out.ret _ _ rfl _ rfl) rfl (by rw [HU.out, hd]; exact HA.out.fin)
    · go_wp2_with fail
      refine (HH.out _ HT.out.prs).mono ?_
      rintro e w5 ⟨rfl, hp, hg⟩
      have HT5 := Lib.hid (HT.out.call hp hg)
      clear hp hg HT
      have HA := Lib.hid (TkA.zero HT5.out)
      go_wp2_with (refine wpList_store_row rfl _ _ _ rfl w.heap.size zTok rfl rfl _ _ HA.out.tk.box tkS6 rfl zTok_one ?_)
      (try simp only [Exit.inBlock, Exit.then])
      exact bodyPost_ret (HA.out.ret _ _ rfl _ rfl) rfl (by rw [HU.out, hd]; exact HA.out.fin)
end Go.Proofs.YtfnamfkjbkhgeaaGreatDoor

namespace Go.Proofs.YtfnamfkjbkhgeaaGreatDoor

open Go Go.RowKit

def fnV (f : FuncId) : Value := .func (.func f) #[] #[]
def stps : Array Value := #[fnV 145, fnV 146, fnV 147, fnV 148, fnV 149, fnV 150, fnV 151, fnV 152]
def stp0 : Array Value := #[.nilFunc, .nilFunc, .nilFunc, .nilFunc, .nilFunc, .nilFunc, .nilFunc, .nilFunc]
theorem stpS : (Tryz.prog.info? 190).map (·.size) = some 8 := by kernel_rfl
set_option maxRecDepth 100000 in
set_option maxHeartbeats 4000000 in
theorem steps_any (w : World) : Calls Tryz.prog 123 #[] w fun e w' => e = .returned (.agg stps) ∧ Below w.heap.size w w' := by
  have HB : Hid (Blk (w.alloc (.cells stp0 190)) w.heap.size 190 stp0) := Lib.hid (Blk.new w _ _)
  have HL : Hid (Below w.heap.size w (w.alloc (.cells stp0 190))) := Lib.hid ((Below.refl _ w).alloc (Nat.le_refl _) _)
  unfold stp0 at HB HL
  go_enter Tryz.func123, Tryz.ntmps123
  go_upto_region 1 with fail
  generalize w.alloc (.cells #[.nilFunc, .nilFunc, .nilFunc, .nilFunc, .nilFunc, .nilFunc, .nilFunc, .nilFunc] 190) = w1 at *
  go_wp2_with (refine wpList_store_row rfl _ _ _ rfl w.heap.size stps rfl rfl _ _ HB.out stpS rfl (by simp [stps, fnV, Value.oneCell']) ?_)
  (try simp only [Exit.inBlock, Exit.then])
  have hb2 : Blk (w1.setRow w.heap.size stps) w.heap.size 190 stps := setRow_heap w1 _ _ _ _ _ HB.out
  exact bodyPost_ret (results_cell_row rfl _ _ w.heap.size 190 stps (0, 0) _ rfl hb2 Tryz.underlying190 rfl stpS) rfl ⟨rfl, ⟨HL.out.os, HL.out.tape, HL.out.output, by simpa [World.setRow] using HL.out.size, fun k hk => (row_far stps (by omega)).trans (HL.out.block k hk)⟩⟩
end Go.Proofs.YtfnamfkjbkhgeaaGreatDoor

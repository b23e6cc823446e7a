/-
  A parser's steps.
-/
import Derived.Test.YtpiliicphoacfaaDoorPrsG
namespace Go.Proofs.YtpiliicphoacfaaDoor

open Go Go.RowKit

/-- What is known in the midst of a step: the parser, the box of the answer. -/
structure TkW (w W : World) (g : Nat) (s : Ps) (x : Array Value) : Prop where
  prs : PsB W g s
  box : Blk W w.heap.size 29 x
  gro : w.grownBy W (some g)
  lt : w.heap.size < W.heap.size
  gl : g < w.heap.size
theorem TkW.start {w : World} {g : Nat} {s : Ps} (h : PsB w g s) : TkW w (w.alloc (.cells zTok 29)) g s zTok := by
  have hb : Below w.heap.size w (w.alloc (.cells zTok 29)) := (Below.refl _ w).alloc (Nat.le_refl _) _
  exact ⟨h.next hb, Blk.new w _ _, grown_below hb, by simp, h.lt⟩
theorem TkW.put {w W : World} {g : Nat} {s t : Ps} {x : Array Value} (h : TkW w W g s x) (k : Nat) (v : Value) (e : s.cells.set k v = t.cells) (ht : t.ok) : TkW w (W.setCell ⟨g, k, none⟩ v) g t x :=
  have hg : W.grownBy (W.setCell ⟨g, k, none⟩ v) (some g) := grown_set
  ⟨h.prs.put k v e ht, (hg.block _ h.lt (by have := h.gl; simp; omega)).trans h.box, grown_trans h.gro hg, Nat.lt_of_lt_of_le h.lt hg.size, h.gl⟩
theorem TkW.call {w W w' : World} {g : Nat} {s t : Ps} {x : Array Value} (h : TkW w W g s x) (hp : PsB w' g t) (hg : W.grownBy w' (some g)) : TkW w w' g t x :=
  ⟨hp, (hg.block _ h.lt (by have := h.gl; simp; omega)).trans h.box, grown_trans h.gro hg, Nat.lt_of_lt_of_le h.lt hg.size, h.gl⟩
theorem TkW.set {w W : World} {g : Nat} {s : Ps} {x : Array Value} (h : TkW w W g s x) (y : Array Value) : TkW w (W.setRow w.heap.size y) g s y :=
  ⟨⟨(row_far y (by have := h.gl; omega)).trans h.prs.blk, h.prs.ok⟩, setRow_heap W _ _ _ _ _ h.box, ⟨h.gro.os, h.gro.tape, h.gro.output, by simpa [World.setRow] using h.gro.size, fun k hk hn => (row_far y (by omega)).trans (h.gro.block k hk hn)⟩, by simpa [World.setRow] using h.lt, h.gl⟩
theorem TkW.more {w W w' : World} {g : Nat} {s : Ps} {x : Array Value} (h : TkW w W g s x) (hb : Below W.heap.size W w') : TkW w w' g s x := h.call (h.prs.next hb) (grown_below hb)
/-- The answer is laid into its box. -/
structure TkA (w W : World) (g : Nat) (r : Ps × Tok) (X : Array Value) : Prop where
  tk : TkW w W g r.1 zTok
  tok : OTk W (w.heap.size + 1) (.agg X) r.2
  one : X.all (·.oneCell') = true
  six : X.size = 6
theorem tk_cs_one (t : Tok) (A : Option Addr) (c : Nat) (B : Option Addr) (d : Nat) : (t.cs A c B d).all (·.oneCell') = true := by simp [Tok.cs, Value.oneCell']
theorem TkQ.open {W w' : World} {g : Nat} {r : Ps × Tok} {e : Ending} (h : TkQ W g r e w') {w : World} {s : Ps} (hk : TkW w W g s zTok) : ∃ X : Array Value, e = .returned (.agg X) ∧ TkA w w' g r X := by
  obtain ⟨v, rfl, ho, hp, hg⟩ := h
  obtain ⟨A, c, B, d, rfl, h1, h2⟩ := ho
  exact ⟨_, rfl, hk.call hp hg, OTk.more ⟨A, c, B, d, rfl, h1, h2⟩ hk.lt, tk_cs_one _ _ _ _ _, rfl⟩
theorem TkA.zero {w W : World} {g : Nat} {s : Ps} (h : TkW w W g s zTok) : TkA w W g (s, tok0) zTok := ⟨h, otk0 _ _, zTok_one, rfl⟩
theorem TkA.fin {w W : World} {g : Nat} {r : Ps × Tok} {X : Array Value} (h : TkA w W g r X) : TkQ w g r (.returned (.agg X)) (W.setRow w.heap.size X) := by
  have hs := h.tk.set X
  exact ⟨_, rfl, (h.tok.keep (grown_row W _ X) (fun k hk => by cases hk; omega)).more (by omega), hs.prs, hs.gro⟩
theorem TkA.ret {w W : World} {g : Nat} {r : Ps × Tok} {X : Array Value} (h : TkA w W g r X) (fn : Func) (p : Tmp) (hr : fn.results = #[.cell p 29]) (tmps : Array Value) (hp : tmps.getD p undef = .pointer (some ⟨w.heap.size, 0, none⟩)) : (results fn tmps).run Tryd.prog (W.setRow w.heap.size X) = .ok (.agg X) (W.setRow w.heap.size X) :=
  results_cell_row hr tmps _ w.heap.size 29 X (0, 0) _ hp (h.tk.set X).box tkU rfl (by rw [h.six]; exact tkS6)
def ctlT (c : Nat) : Tok := ⟨2, c, 0, [], ⟨#[]⟩, []⟩
def prtT (c : Nat) : Tok := ⟨1, c, 0, [], ⟨#[]⟩, []⟩
theorem otkC (w : World) (b c : Nat) : OTk w b (.agg #[.int .i64 2, .int .u8 (c : Int), .int .u8 0, .slice none 0 0, .string ⟨#[]⟩, .slice none 0 0]) (ctlT c) := ⟨none, 0, none, 0, rfl, World.ownsRow_nil _ _ _ _, World.ownsRow_nil _ _ _ _⟩
theorem otkP (w : World) (b c : Nat) : OTk w b (.agg #[.int .i64 1, .int .u8 (c : Int), .int .u8 0, .slice none 0 0, .string ⟨#[]⟩, .slice none 0 0]) (prtT c) := ⟨none, 0, none, 0, rfl, World.ownsRow_nil _ _ _ _, World.ownsRow_nil _ _ _ _⟩
theorem Ps.ok.to {s t : Ps} (h : s.ok) (e1 : t.fs = s.fs) (e2 : t.ds = s.ds) (e3 : t.it = s.it) : t.ok := ⟨by rw [e1]; exact h.fs, by rw [e2]; exact h.ds, by rw [e3]; exact h.it⟩
/-! What the steps do. -/
def takeCodeP (s : Ps) (c : Nat) : Ps × Tok := if s.kd = 5 then ({s with cd := c, pl := 6}, tok0) else (ps0, endT {s with cd := c})
def takeIntersP (s : Ps) (c : Nat) : Ps × Tok := if pCode c then takeCodeP s c else if pInter c then (takeInterP {s with pl := 5} c, tok0) else ({s with vo := true}, tok0)
def takeNumbersP (s : Ps) (c : Nat) : Ps × Tok := if okb (UInt8.ofNat c) then ({s with fs := stepF s.fs (UInt8.ofNat c)}, tok0) else takeIntersP s c
def takeFirstP (s : Ps) (c : Nat) : Ps × Tok := if pMark c then ({s with pl := 4, mr := c}, tok0) else takeNumbersP {s with pl := 4} c
def takeEscIntersP (s : Ps) (c : Nat) : Ps × Tok := if pInter c then (takeInterP {s with pl := 2} c, tok0) else takeCodeP s c
def takeEscapedP (s : Ps) (c : Nat) : Ps × Tok :=
  if c = 91 then ({s with kd := 4, pl := 3}, tok0) else if c = 80 then ({s with kd := 5, pl := 3}, tok0) else if c = 93 then ({s with kd := 6, pl := 6}, tok0)
  else if c = 88 then ({s with kd := 7, pl := 6}, tok0) else if c = 94 then ({s with kd := 8, pl := 6}, tok0) else if c = 95 then ({s with kd := 9, pl := 6}, tok0)
  else if c = 92 then (ps0, tok0) else takeEscIntersP s c
def takeOutsideP (s : Ps) (c : Nat) : Ps × Tok := if c = 27 then (begP, tok0) else if c = 24 then (s, tok0) else if c < 32 then (s, ctlT c) else (s, prtT c)
def takeTextP (s : Ps) (c : Nat) : Ps × Tok := if c = 27 then ({s with pl := 7}, tok0) else if c = 7 ∧ s.kd = 6 then (ps0, endT s) else if pData c then (holdP s c, tok0) else (s, tok0)
theorem control_any (c : Nat) (w : World) : Calls Tryd.prog 75 #[.int .u8 (c : Int)] w fun e w' => e = .returned (.agg #[.int .i64 2, .int .u8 (c : Int), .int .u8 0, .slice none 0 0, .string ⟨#[]⟩, .slice none 0 0]) ∧ Below w.heap.size w w' := by
  obtain ⟨X, hX⟩ : ∃ X : Array Value, X = #[.int .i64 2, .int .u8 (c : Int), .int .u8 0, .slice none 0 0, .string ⟨#[]⟩, .slice none 0 0] := ⟨_, rfl⟩
  have HB : Hid (Blk (w.alloc (.cells zTok 29)) w.heap.size 29 zTok) := Lib.hid (Blk.new w _ _)
  have hb : Below w.heap.size w (w.alloc (.cells zTok 29)) := (Below.refl _ w).alloc (Nat.le_refl _) _
  have HL := Lib.hid hb
  clear hb
  unfold zTok at HB HL
  go_enter Tryd.func75, Tryd.ntmps75
  go_upto_region 1 with fail
  generalize w.alloc (.cells #[.int .i64 0, .int .u8 0, .int .u8 0, .slice none 0 0, .string ⟨#[]⟩, .slice none 0 0] 29) = w1 at *
  have hX1 : X.all (·.oneCell') = true := by rw [hX]; simp [Value.oneCell']
  have hXs : (Tryd.prog.info? 29).map (·.size) = some X.size := by rw [hX]; exact tkS6
  have hX6 : zTok.size = X.size := by subst hX; rfl
  have HX := Lib.hid hX
  clear hX
  go_wp2_with (refine wpList_store_row rfl _ _ _ rfl w.heap.size X rfl (by rw [HX.out]; rfl) _ _ HB.out hXs hX6 hX1 ?_)
  (try simp only [Exit.inBlock, Exit.then])
  rw [← HX.out]
  have hb2 : Blk (w1.setRow w.heap.size X) w.heap.size 29 X := setRow_heap w1 _ _ _ _ _ HB.out
  exact bodyPost_ret (results_cell_row rfl _ _ w.heap.size 29 X (0, 0) _ rfl hb2 tkU rfl hXs) rfl ⟨rfl, ⟨HL.out.os, HL.out.tape, HL.out.output, by simpa [World.setRow] using HL.out.size, fun k hk => (row_far X (by omega)).trans (HL.out.block k hk)⟩⟩
set_option maxRecDepth 100000 in
set_option maxHeartbeats 8000000 in
theorem takeCode_any (g : Nat) (s : Ps) (c : Nat) (w : World) (h : PsB w g s) :
    Calls Tryd.prog 89 #[.pointer (some ⟨g, 0, none⟩), .int .u8 (c : Int)] w (TkQ w g (takeCodeP s c)) := by
  have HT := Lib.hid (TkW.start h)
  have HE := Lib.hid (fun W (h : PsB W g {s with cd := c}) => end_any g {s with cd := c} W h)
  clear h
  unfold zTok at HT
  go_enter Tryd.func89, Tryd.ntmps89
  go_upto_region 1 with fail
  generalize w.alloc (.cells #[.int .i64 0, .int .u8 0, .int .u8 0, .slice none 0 0, .string ⟨#[]⟩, .slice none 0 0] 29) = w1 at *
  have f2 := HT.out.prs.blk.frozen 2
  have q2 := HT.out.prs.at_ 2 _ rfl
  go_upto_region 2 with fail
  have HT2 := Lib.hid (HT.out.put (t := {s with cd := c}) 2 (.int .u8 (c : Int)) rfl (HT.out.prs.ok.to rfl rfl rfl))
  generalize w1.setCell ⟨g, 2, none⟩ (.int .u8 (c : Int)) = w2 at *
  clear HT f2 q2 w1
  have q1 := HT2.out.prs.at_ 1 _ rfl
  have q0 := HT2.out.prs.at_ 0 _ rfl
  have f0 := HT2.out.prs.blk.frozen 0
  by_cases hk : s.kd = 5
  · simp only [hk] at q1
    go_upto_region 4 with fail
    have HT3 := Lib.hid (HT2.out.put (t := {s with cd := c, pl := 6}) 0 (.int .i64 6) rfl (HT2.out.prs.ok.to rfl rfl rfl))
    generalize w2.setCell ⟨g, 0, none⟩ (.int .i64 6) = w3 at *
    clear HT2 q0 q1 f0 w2
    have HA := Lib.hid (TkA.zero HT3.out)
    go_wp2_with (refine wpList_store_row rfl _ _ _ rfl w.heap.size zTok rfl rfl _ _ HA.out.tk.box tkS6 rfl zTok_one ?_)
    (try simp only [Exit.inBlock, Exit.then])
    exact bodyPost_ret (HA.out.ret _ _ rfl _ rfl) rfl (by unfold takeCodeP; rw [if_pos hk]; exact HA.out.fin)
  · have hkb : (s.kd == 5) = false := by simpa using hk
    clear q0 f0
    go_upto_region 5 with fail
    go_wp2_with fail
    refine (HE.out _ HT2.out.prs).mono ?_
    intro e w2 hq
    obtain ⟨X, rfl, ha⟩ := hq.open HT2.out
    have HA := Lib.hid ha
    clear ha hq
    have tkX : (Tryd.prog.info? 29).map (·.size) = some X.size := by rw [HA.out.six]; exact tkS6
    have tkX6 : zTok.size = X.size := by rw [HA.out.six]; rfl
    go_wp2_with (refine wpList_store_row rfl _ _ _ rfl w.heap.size X rfl rfl _ _ HA.out.tk.box tkX tkX6 HA.out.one ?_)
    (try simp only [Exit.inBlock, Exit.then])
    exact bodyPost_ret (HA.out.ret _ _ rfl _ rfl) rfl (by unfold takeCodeP; rw [if_neg hk]; exact HA.out.fin)
set_option maxRecDepth 100000 in
set_option maxHeartbeats 8000000 in
theorem takeInters_any (g : Nat) (s : Ps) (c : Nat) (w : World) (h : PsB w g s) :
    Calls Tryd.prog 71 #[.pointer (some ⟨g, 0, none⟩), .int .u8 (c : Int)] w (TkQ w g (takeIntersP s c)) := by
  have HT := Lib.hid (TkW.start h)
  have HC := Lib.hid (fun W (h : PsB W g s) => takeCode_any g s c W h)
  have HI := Lib.hid (fun (hc : 32 ≤ c ∧ c ≤ 47) W (h : PsB W g {s with pl := 5}) => takeInter_any g {s with pl := 5} c hc W h)
  clear h
  unfold zTok at HT
  go_enter Tryd.func71, Tryd.ntmps71
  go_upto_region 2 with fail
  generalize w.alloc (.cells #[.int .i64 0, .int .u8 0, .int .u8 0, .slice none 0 0, .string ⟨#[]⟩, .slice none 0 0] 29) = w1 at *
  rcases h1 : pCode c with _ | _
  · rcases h2 : pInter c with _ | _
    · have q39 := HT.out.prs.at_ 39 _ (cell_void s)
      have f39 := HT.out.prs.blk.frozen 39
      go_wp2_with fail
      refine (pCode_any c _).mono ?_
      rintro e w2 ⟨rfl, rfl⟩
      rw [h1]
      go_wp2_with fail
      refine (pInter_any c _).mono ?_
      rintro e w3 ⟨rfl, rfl⟩
      rw [h2]
      go_upto_region 7 with fail
      have HT3 := Lib.hid (HT.out.put (t := {s with vo := true}) 39 (.bool true) (set_vo s true) (HT.out.prs.ok.to rfl rfl rfl))
      generalize w3.setCell ⟨g, 39, none⟩ (.bool true) = w4 at *
      clear HT q39 f39
      have HA := Lib.hid (TkA.zero HT3.out)
      go_wp2_with (refine wpList_store_row rfl _ _ _ rfl w.heap.size zTok rfl rfl _ _ HA.out.tk.box tkS6 rfl zTok_one ?_)
      (try simp only [Exit.inBlock, Exit.then])
      exact bodyPost_ret (HA.out.ret _ _ rfl _ rfl) rfl (by unfold takeIntersP; rw [h1, h2]; exact HA.out.fin)
    · have hcc : 32 ≤ c ∧ c ≤ 47 := by simpa [pInter] using h2
      have q0 := HT.out.prs.at_ 0 _ rfl
      have f0 := HT.out.prs.blk.frozen 0
      go_wp2_with fail
      refine (pCode_any c _).mono ?_
      rintro e w2 ⟨rfl, rfl⟩
      rw [h1]
      go_wp2_with fail
      refine (pInter_any c _).mono ?_
      rintro e w3 ⟨rfl, rfl⟩
      rw [h2]
      go_upto_region 6 with fail
      have HT3 := Lib.hid (HT.out.put (t := {s with pl := 5}) 0 (.int .i64 5) rfl (HT.out.prs.ok.to rfl rfl rfl))
      generalize w3.setCell ⟨g, 0, none⟩ (.int .i64 5) = w4 at *
      clear HT q0 f0
      go_wp2_with fail
      refine (HI.out hcc _ HT3.out.prs).mono ?_
      rintro e w5 ⟨rfl, hp, hg⟩
      have HT5 := Lib.hid (HT3.out.call hp hg)
      clear hp hg HT3
      have HA := Lib.hid (TkA.zero HT5.out)
      go_wp2_with (refine wpList_store_row rfl _ _ _ rfl w.heap.size zTok rfl rfl _ _ HA.out.tk.box tkS6 rfl zTok_one ?_)
      (try simp only [Exit.inBlock, Exit.then])
      exact bodyPost_ret (HA.out.ret _ _ rfl _ rfl) rfl (by unfold takeIntersP; rw [h1, h2]; exact HA.out.fin)
  · go_wp2_with fail
    refine (pCode_any c _).mono ?_
    rintro e w2 ⟨rfl, rfl⟩
    rw [h1]
    go_upto_region 3 with fail
    go_wp2_with fail
    refine (HC.out _ HT.out.prs).mono ?_
    intro e w2 hq
    obtain ⟨X, rfl, ha⟩ := hq.open HT.out
    have HA := Lib.hid ha
    clear ha hq
    have tkX : (Tryd.prog.info? 29).map (·.size) = some X.size := by rw [HA.out.six]; exact tkS6
    have tkX6 : zTok.size = X.size := by rw [HA.out.six]; rfl
    go_wp2_with (refine wpList_store_row rfl _ _ _ rfl w.heap.size X rfl rfl _ _ HA.out.tk.box tkX tkX6 HA.out.one ?_)
    (try simp only [Exit.inBlock, Exit.then])
    exact bodyPost_ret (HA.out.ret _ _ rfl _ rfl) rfl (by unfold takeIntersP; rw [h1]; exact HA.out.fin)
end Go.Proofs.YtpiliicphoacfaaDoor

/-
  A parser's steps by a table, within a sequence.
  A parser's steps: what is done with a byte.
  A parser's steps: what is done with a byte, whole.
  What is done with a byte, whole.
  Lists of tokens of memory of their own; where a parser may stand.
  A stream is fed.
  Lists of tokens that are read; a parser that is new; a whole stream.
-/
import Derived.Test.YtfnamfkjbkhgeaaGreatDoorPrsK
import Derived.Great.Walk
namespace Go.Proofs.YtfnamfkjbkhgeaaGreatDoor

open Go Go.RowKit

theorem TkQ.open6 {W w' : World} {g : Nat} {r : Ps × Tok} {e : Ending} (h : TkQ W g r e w') {w : World} {s : Ps} (hk : TkW w W g s zTok) : ∃ (t : Tok) (A : Option Addr) (c : Nat) (B : Option Addr) (d : Nat), e = .returned (.agg (t.cs A c B d)) ∧ r.2 = t ∧ TkA w w' g r (t.cs A c B d) := by
  obtain ⟨v, rfl, ho, hp, hg⟩ := h
  obtain ⟨A, c, B, d, rfl, h1, h2⟩ := ho
  exact ⟨_, A, c, B, d, rfl, rfl, hk.call hp hg, OTk.more ⟨A, c, B, d, rfl, h1, h2⟩ hk.lt, tk_cs_one _ _ _ _ _, rfl⟩
theorem repl_grown {w w' : World} {b : Nat} {T : TypeId} {cs : Array Value} (h : Repl w w' b T cs) : w.grownBy w' (some b) := ⟨h.os, h.tape, h.output, Nat.le_of_eq h.size.symm, fun k _ hn => h.far k (fun e => hn (by rw [e]))⟩
theorem TkA.fin6 {w W W' : World} {g : Nat} {r : Ps × Tok} {X : Array Value} (h : TkA w W g r X) (hr : Repl W W' w.heap.size 66 X) : TkQ w g r (.returned (.agg X)) W' := by
  have hg : W.grownBy W' (some w.heap.size) := repl_grown hr
  exact ⟨_, rfl, (h.tok.keep hg (fun k hk => by cases hk; omega)).more (by omega), ⟨(hg.block g h.tk.prs.lt (by have := h.tk.gl; simp; omega)).trans h.tk.prs.blk, h.tk.prs.ok⟩, ⟨hg.os.trans h.tk.gro.os, hg.tape.trans h.tk.gro.tape, hg.output.trans h.tk.gro.output, Nat.le_trans h.tk.gro.size hg.size, fun k hk hn => (hg.block k (Nat.lt_of_lt_of_le hk h.tk.gro.size) (by simp; omega)).trans (h.tk.gro.block k hk hn)⟩⟩
theorem TkA.ret6 {w W W' : World} {g : Nat} {r : Ps × Tok} {X : Array Value} (h : TkA w W g r X) (hr : Repl W W' w.heap.size 66 X) (fn : Func) (p : Tmp) (hrs : fn.results = #[.cell p 66]) (tmps : Array Value) (hp : tmps.getD p undef = .pointer (some ⟨w.heap.size, 0, none⟩)) : (results fn tmps).run Tryz.prog W' = .ok (.agg X) W' :=
  results_cell_row hrs tmps _ w.heap.size 66 X (0, 0) _ hp hr.here tkU rfl (by rw [h.six]; exact tkS6)
theorem andn (c : Nat) (hc : c < 256) : bits .andNot .u8 (c : Int) 128 = ((c % 128 : Nat) : Int) := by
  have : ∀ k : Fin 256, bits .andNot .u8 ((k.val : Nat) : Int) 128 = ((k.val % 128 : Nat) : Int) := by decide +kernel
  exact this ⟨c, hc⟩
theorem ix0 (W : World) : (Instr.index 190 (.agg stps) (.int .i64 0)).run Tryz.prog W = .ok (.func (.func 145) #[] #[]) W := by kernel_rfl
theorem ix1 (W : World) : (Instr.index 190 (.agg stps) (.int .i64 1)).run Tryz.prog W = .ok (.func (.func 146) #[] #[]) W := by kernel_rfl
theorem ix2 (W : World) : (Instr.index 190 (.agg stps) (.int .i64 2)).run Tryz.prog W = .ok (.func (.func 147) #[] #[]) W := by kernel_rfl
theorem ix3 (W : World) : (Instr.index 190 (.agg stps) (.int .i64 3)).run Tryz.prog W = .ok (.func (.func 148) #[] #[]) W := by kernel_rfl
theorem ix4 (W : World) : (Instr.index 190 (.agg stps) (.int .i64 4)).run Tryz.prog W = .ok (.func (.func 149) #[] #[]) W := by kernel_rfl
theorem ix5 (W : World) : (Instr.index 190 (.agg stps) (.int .i64 5)).run Tryz.prog W = .ok (.func (.func 150) #[] #[]) W := by kernel_rfl
theorem ix6 (W : World) : (Instr.index 190 (.agg stps) (.int .i64 6)).run Tryz.prog W = .ok (.func (.func 151) #[] #[]) W := by kernel_rfl
theorem ix7 (W : World) : (Instr.index 190 (.agg stps) (.int .i64 7)).run Tryz.prog W = .ok (.func (.func 152) #[] #[]) W := by kernel_rfl
set_option maxRecDepth 100000 in
set_option maxHeartbeats 8000000 in
theorem within1_any (g : Nat) (s : Ps) (c : Nat) (hc : c < 256) (h32 : 32 ≤ c) (h255 : c ≠ 255) (hp : s.pl = 1) (w : World) (h : PsB w g s) :
    Calls Tryz.prog 124 #[.pointer (some ⟨g, 0, none⟩), .int .u8 (c : Int)] w (TkQ w g (takeEscapedP s (c % 128))) := by
  have HT := Lib.hid (TkW.start h)
  have HS := Lib.hid (fun W (h : PsB W g s) => takeEscaped_any g s (c % 128) W h)
  have n27 : ((c : Int) == 27) = false := by simp; omega
  have l32 : ((c : Int) < 32) = False := eq_false (by omega)
  have n255 : ((c : Int) != 255) = true := by simp; omega
  have hix := ix1
  have hbt := andn c hc
  clear h hc h32 h255
  generalize c % 128 = d at *
  unfold zTok at HT
  go_enter Tryz.func124, Tryz.ntmps124
  go_upto_region 6 with fail
  generalize w.alloc (.cells #[.int .i64 0, .int .u8 0, .int .u8 0, .slice none 0 0, .string ⟨#[]⟩, .slice none 0 0] 66) = w1 at *
  have q0 := HT.out.prs.at_ 0 _ rfl
  rw [hp] at q0
  have HQ := Lib.hid (fun W (hb : Below w1.heap.size w1 W) => (HT.out.prs.next hb).at_ 0 _ rfl)
  rw [hp] at HQ
  go_region_with (first
    | (go_at_call 123; refine (steps_any _).mono ?_; rintro e w2 ⟨rfl, hb⟩; have hb1 : Below w1.heap.size w1 w2 := ((Below.refl _ w1).drew).trans hb; have q1 := HQ.out w2 hb1)
    | (go_at_call 146; refine (HS.out _ (HT.out.prs.next (‹Below w1.heap.size w1 _›))).mono ?_; intro e w3 hq; obtain ⟨t, A, cc, B, dd, rfl, ht, ha⟩ := hq.open6 (HT.out.more (‹Below w1.heap.size w1 _›)); have HA := Lib.hid ha; obtain ⟨z0, z1, z2, z3, z4, z5⟩ := six ha.tk.box; obtain ⟨f0, f1, f2, f3, f4, f5⟩ := six_fr ha.tk.box; unfold Tok.cs; clear ha hq ht))
  all_goals
    have hrp := repl6 HA.out.tk.box (.int .i64 t.kd) (.int .u8 (t.cd : Int)) (.int .u8 (t.mr : Int)) (.slice A t.ps.length cc) (.string t.it) (.slice B t.dt.length dd)
    go_wp2_with fail
    (try simp only [Exit.inBlock, Exit.then])
    exact bodyPost_ret (HA.out.ret6 hrp _ _ rfl _ rfl) rfl (HA.out.fin6 hrp)
set_option maxRecDepth 100000 in
set_option maxHeartbeats 8000000 in
theorem within2_any (g : Nat) (s : Ps) (c : Nat) (hc : c < 256) (h32 : 32 ≤ c) (h255 : c ≠ 255) (hp : s.pl = 2) (w : World) (h : PsB w g s) :
    Calls Tryz.prog 124 #[.pointer (some ⟨g, 0, none⟩), .int .u8 (c : Int)] w (TkQ w g (takeEscIntersP s (c % 128))) := by
  have HT := Lib.hid (TkW.start h)
  have HS := Lib.hid (fun W (h : PsB W g s) => takeEscInters_any g s (c % 128) W h)
  have n27 : ((c : Int) == 27) = false := by simp; omega
  have l32 : ((c : Int) < 32) = False := eq_false (by omega)
  have n255 : ((c : Int) != 255) = true := by simp; omega
  have hix := ix2
  have hbt := andn c hc
  clear h hc h32 h255
  generalize c % 128 = d at *
  unfold zTok at HT
  go_enter Tryz.func124, Tryz.ntmps124
  go_upto_region 6 with fail
  generalize w.alloc (.cells #[.int .i64 0, .int .u8 0, .int .u8 0, .slice none 0 0, .string ⟨#[]⟩, .slice none 0 0] 66) = w1 at *
  have q0 := HT.out.prs.at_ 0 _ rfl
  rw [hp] at q0
  have HQ := Lib.hid (fun W (hb : Below w1.heap.size w1 W) => (HT.out.prs.next hb).at_ 0 _ rfl)
  rw [hp] at HQ
  go_region_with (first
    | (go_at_call 123; refine (steps_any _).mono ?_; rintro e w2 ⟨rfl, hb⟩; have hb1 : Below w1.heap.size w1 w2 := ((Below.refl _ w1).drew).trans hb; have q1 := HQ.out w2 hb1)
    | (go_at_call 147; refine (HS.out _ (HT.out.prs.next (‹Below w1.heap.size w1 _›))).mono ?_; intro e w3 hq; obtain ⟨t, A, cc, B, dd, rfl, ht, ha⟩ := hq.open6 (HT.out.more (‹Below w1.heap.size w1 _›)); have HA := Lib.hid ha; obtain ⟨z0, z1, z2, z3, z4, z5⟩ := six ha.tk.box; obtain ⟨f0, f1, f2, f3, f4, f5⟩ := six_fr ha.tk.box; unfold Tok.cs; clear ha hq ht))
  all_goals
    have hrp := repl6 HA.out.tk.box (.int .i64 t.kd) (.int .u8 (t.cd : Int)) (.int .u8 (t.mr : Int)) (.slice A t.ps.length cc) (.string t.it) (.slice B t.dt.length dd)
    go_wp2_with fail
    (try simp only [Exit.inBlock, Exit.then])
    exact bodyPost_ret (HA.out.ret6 hrp _ _ rfl _ rfl) rfl (HA.out.fin6 hrp)
set_option maxRecDepth 100000 in
set_option maxHeartbeats 8000000 in
theorem within3_any (g : Nat) (s : Ps) (c : Nat) (hc : c < 256) (h32 : 32 ≤ c) (h255 : c ≠ 255) (hp : s.pl = 3) (w : World) (h : PsB w g s) :
    Calls Tryz.prog 124 #[.pointer (some ⟨g, 0, none⟩), .int .u8 (c : Int)] w (TkQ w g (takeFirstP s (c % 128))) := by
  have HT := Lib.hid (TkW.start h)
  have HS := Lib.hid (fun W (h : PsB W g s) => takeFirst_any g s (c % 128) (by omega) W h)
  have n27 : ((c : Int) == 27) = false := by simp; omega
  have l32 : ((c : Int) < 32) = False := eq_false (by omega)
  have n255 : ((c : Int) != 255) = true := by simp; omega
  have hix := ix3
  have hbt := andn c hc
  clear h hc h32 h255
  generalize c % 128 = d at *
  unfold zTok at HT
  go_enter Tryz.func124, Tryz.ntmps124
  go_upto_region 6 with fail
  generalize w.alloc (.cells #[.int .i64 0, .int .u8 0, .int .u8 0, .slice none 0 0, .string ⟨#[]⟩, .slice none 0 0] 66) = w1 at *
  have q0 := HT.out.prs.at_ 0 _ rfl
  rw [hp] at q0
  have HQ := Lib.hid (fun W (hb : Below w1.heap.size w1 W) => (HT.out.prs.next hb).at_ 0 _ rfl)
  rw [hp] at HQ
  go_region_with (first
    | (go_at_call 123; refine (steps_any _).mono ?_; rintro e w2 ⟨rfl, hb⟩; have hb1 : Below w1.heap.size w1 w2 := ((Below.refl _ w1).drew).trans hb; have q1 := HQ.out w2 hb1)
    | (go_at_call 148; refine (HS.out _ (HT.out.prs.next (‹Below w1.heap.size w1 _›))).mono ?_; intro e w3 hq; obtain ⟨t, A, cc, B, dd, rfl, ht, ha⟩ := hq.open6 (HT.out.more (‹Below w1.heap.size w1 _›)); have HA := Lib.hid ha; obtain ⟨z0, z1, z2, z3, z4, z5⟩ := six ha.tk.box; obtain ⟨f0, f1, f2, f3, f4, f5⟩ := six_fr ha.tk.box; unfold Tok.cs; clear ha hq ht))
  all_goals
    have hrp := repl6 HA.out.tk.box (.int .i64 t.kd) (.int .u8 (t.cd : Int)) (.int .u8 (t.mr : Int)) (.slice A t.ps.length cc) (.string t.it) (.slice B t.dt.length dd)
    go_wp2_with fail
    (try simp only [Exit.inBlock, Exit.then])
    exact bodyPost_ret (HA.out.ret6 hrp _ _ rfl _ rfl) rfl (HA.out.fin6 hrp)
set_option maxRecDepth 100000 in
set_option maxHeartbeats 8000000 in
theorem within4_any (g : Nat) (s : Ps) (c : Nat) (hc : c < 256) (h32 : 32 ≤ c) (h255 : c ≠ 255) (hp : s.pl = 4) (w : World) (h : PsB w g s) :
    Calls Tryz.prog 124 #[.pointer (some ⟨g, 0, none⟩), .int .u8 (c : Int)] w (TkQ w g (takeNumbersP s (c % 128))) := by
  have HT := Lib.hid (TkW.start h)
  have HS := Lib.hid (fun W (h : PsB W g s) => takeNumbers_any g s (c % 128) (by omega) W h)
  have n27 : ((c : Int) == 27) = false := by simp; omega
  have l32 : ((c : Int) < 32) = False := eq_false (by omega)
  have n255 : ((c : Int) != 255) = true := by simp; omega
  have hix := ix4
  have hbt := andn c hc
  clear h hc h32 h255
  generalize c % 128 = d at *
  unfold zTok at HT
  go_enter Tryz.func124, Tryz.ntmps124
  go_upto_region 6 with fail
  generalize w.alloc (.cells #[.int .i64 0, .int .u8 0, .int .u8 0, .slice none 0 0, .string ⟨#[]⟩, .slice none 0 0] 66) = w1 at *
  have q0 := HT.out.prs.at_ 0 _ rfl
  rw [hp] at q0
  have HQ := Lib.hid (fun W (hb : Below w1.heap.size w1 W) => (HT.out.prs.next hb).at_ 0 _ rfl)
  rw [hp] at HQ
  go_region_with (first
    | (go_at_call 123; refine (steps_any _).mono ?_; rintro e w2 ⟨rfl, hb⟩; have hb1 : Below w1.heap.size w1 w2 := ((Below.refl _ w1).drew).trans hb; have q1 := HQ.out w2 hb1)
    | (go_at_call 149; refine (HS.out _ (HT.out.prs.next (‹Below w1.heap.size w1 _›))).mono ?_; intro e w3 hq; obtain ⟨t, A, cc, B, dd, rfl, ht, ha⟩ := hq.open6 (HT.out.more (‹Below w1.heap.size w1 _›)); have HA := Lib.hid ha; obtain ⟨z0, z1, z2, z3, z4, z5⟩ := six ha.tk.box; obtain ⟨f0, f1, f2, f3, f4, f5⟩ := six_fr ha.tk.box; unfold Tok.cs; clear ha hq ht))
  all_goals
    have hrp := repl6 HA.out.tk.box (.int .i64 t.kd) (.int .u8 (t.cd : Int)) (.int .u8 (t.mr : Int)) (.slice A t.ps.length cc) (.string t.it) (.slice B t.dt.length dd)
    go_wp2_with fail
    (try simp only [Exit.inBlock, Exit.then])
    exact bodyPost_ret (HA.out.ret6 hrp _ _ rfl _ rfl) rfl (HA.out.fin6 hrp)
set_option maxRecDepth 100000 in
set_option maxHeartbeats 8000000 in
theorem within5_any (g : Nat) (s : Ps) (c : Nat) (hc : c < 256) (h32 : 32 ≤ c) (h255 : c ≠ 255) (hp : s.pl = 5) (w : World) (h : PsB w g s) :
    Calls Tryz.prog 124 #[.pointer (some ⟨g, 0, none⟩), .int .u8 (c : Int)] w (TkQ w g (takeIntersP s (c % 128))) := by
  have HT := Lib.hid (TkW.start h)
  have HS := Lib.hid (fun W (h : PsB W g s) => takeInters_any g s (c % 128) W h)
  have n27 : ((c : Int) == 27) = false := by simp; omega
  have l32 : ((c : Int) < 32) = False := eq_false (by omega)
  have n255 : ((c : Int) != 255) = true := by simp; omega
  have hix := ix5
  have hbt := andn c hc
  clear h hc h32 h255
  generalize c % 128 = d at *
  unfold zTok at HT
  go_enter Tryz.func124, Tryz.ntmps124
  go_upto_region 6 with fail
  generalize w.alloc (.cells #[.int .i64 0, .int .u8 0, .int .u8 0, .slice none 0 0, .string ⟨#[]⟩, .slice none 0 0] 66) = w1 at *
  have q0 := HT.out.prs.at_ 0 _ rfl
  rw [hp] at q0
  have HQ := Lib.hid (fun W (hb : Below w1.heap.size w1 W) => (HT.out.prs.next hb).at_ 0 _ rfl)
  rw [hp] at HQ
  go_region_with (first
    | (go_at_call 123; refine (steps_any _).mono ?_; rintro e w2 ⟨rfl, hb⟩; have hb1 : Below w1.heap.size w1 w2 := ((Below.refl _ w1).drew).trans hb; have q1 := HQ.out w2 hb1)
    | (go_at_call 150; refine (HS.out _ (HT.out.prs.next (‹Below w1.heap.size w1 _›))).mono ?_; intro e w3 hq; obtain ⟨t, A, cc, B, dd, rfl, ht, ha⟩ := hq.open6 (HT.out.more (‹Below w1.heap.size w1 _›)); have HA := Lib.hid ha; obtain ⟨z0, z1, z2, z3, z4, z5⟩ := six ha.tk.box; obtain ⟨f0, f1, f2, f3, f4, f5⟩ := six_fr ha.tk.box; unfold Tok.cs; clear ha hq ht))
  all_goals
    have hrp := repl6 HA.out.tk.box (.int .i64 t.kd) (.int .u8 (t.cd : Int)) (.int .u8 (t.mr : Int)) (.slice A t.ps.length cc) (.string t.it) (.slice B t.dt.length dd)
    go_wp2_with fail
    (try simp only [Exit.inBlock, Exit.then])
    exact bodyPost_ret (HA.out.ret6 hrp _ _ rfl _ rfl) rfl (HA.out.fin6 hrp)
end Go.Proofs.YtfnamfkjbkhgeaaGreatDoor

namespace Go.Proofs.YtfnamfkjbkhgeaaGreatDoor

open Go Go.RowKit

def stepP (s : Ps) (c : Nat) : Ps × Tok := if s.pl = 1 then takeEscapedP s c else if s.pl = 2 then takeEscIntersP s c else if s.pl = 3 then takeFirstP s c else if s.pl = 4 then takeNumbersP s c else takeIntersP s c
def takeWithinP (s : Ps) (c : Nat) : Ps × Tok := if c = 27 then (begP, tok0) else if c < 32 then (s, ctlT c) else if c = 255 then (s, tok0) else stepP s (c % 128)
def takePl (s : Ps) (c : Nat) : Ps × Tok := if s.pl = 0 then takeOutsideP s c else if s.pl = 6 then takeTextP s c else takeWithinP s c
/-- What is done with a byte, but behind an escape in a text. -/
def takeP0 (s : Ps) (c : Nat) : Ps × Tok := if c = 24 ∨ c = 26 then takePl ps0 c else takePl s c
def takeTextEscapeP (s : Ps) (c : Nat) : Ps × Tok := if c = 92 ∨ c = 220 then (ps0, endT s) else takeP0 begP c
def takeP (s : Ps) (c : Nat) : Ps × Tok := if s.pl = 7 ∧ ¬ (c = 24 ∨ c = 26) then takeTextEscapeP s c else takeP0 s c
set_option maxRecDepth 100000 in
set_option maxHeartbeats 8000000 in
theorem takeWithin_any (g : Nat) (s : Ps) (c : Nat) (hc : c < 256) (hp : 1 ≤ s.pl ∧ s.pl ≤ 5) (w : World) (h : PsB w g s) :
    Calls Tryz.prog 124 #[.pointer (some ⟨g, 0, none⟩), .int .u8 (c : Int)] w (TkQ w g (takeWithinP s c)) := by
  have HT := Lib.hid (TkW.start h)
  have HB := Lib.hid (fun W (h : PsB W g s) => begin_any g s W h)
  have hp0 := h
  clear h
  by_cases h27 : c = 27
  · clear hp0
    subst h27
    unfold zTok at HT
    go_enter Tryz.func124, Tryz.ntmps124
    go_upto_region 2 with fail
    generalize w.alloc (.cells #[.int .i64 0, .int .u8 0, .int .u8 0, .slice none 0 0, .string ⟨#[]⟩, .slice none 0 0] 66) = w1 at *
    go_wp2_with fail
    refine (HB.out _ HT.out.prs).mono ?_
    rintro e w5 ⟨rfl, hp, hg⟩
    have HT5 := Lib.hid (HT.out.call hp hg)
    clear hp hg HT
    have HA := Lib.hid (TkA.zero HT5.out)
    go_wp2_with (refine wpList_store_row rfl _ _ _ rfl w.heap.size zTok rfl rfl _ _ HA.out.tk.box tkS6 rfl zTok_one ?_)
    (try simp only [Exit.inBlock, Exit.then])
    exact bodyPost_ret (HA.out.ret _ _ rfl _ rfl) rfl (by unfold takeWithinP; rw [if_pos rfl]; exact HA.out.fin)
  have n27 : ((c : Int) == 27) = false := by simp; omega
  by_cases h32 : c < 32
  · have l32 : ((c : Int) < 32) = True := eq_true (by omega)
    clear hp0
    unfold zTok at HT
    go_enter Tryz.func124, Tryz.ntmps124
    go_upto_region 4 with fail
    generalize w.alloc (.cells #[.int .i64 0, .int .u8 0, .int .u8 0, .slice none 0 0, .string ⟨#[]⟩, .slice none 0 0] 66) = w1 at *
    go_wp2_with fail
    refine (control_any c _).mono ?_
    rintro e w5 ⟨rfl, hb⟩
    have HA : Hid (TkA w w5 g (s, ctlT c) #[.int .i64 2, .int .u8 (c : Int), .int .u8 0, .slice none 0 0, .string ⟨#[]⟩, .slice none 0 0]) := Lib.hid ⟨HT.out.more hb, otkC _ _ _, by simp [Value.oneCell'], rfl⟩
    clear hb
    generalize hX : (#[.int .i64 2, .int .u8 (c : Int), .int .u8 0, .slice none 0 0, .string ⟨#[]⟩, .slice none 0 0] : Array Value) = X at *
    clear hX
    have tkX : (Tryz.prog.info? 66).map (·.size) = some X.size := by rw [HA.out.six]; exact tkS6
    have tkX6 : zTok.size = X.size := by rw [HA.out.six]; rfl
    go_wp2_with (refine wpList_store_row rfl _ _ _ rfl w.heap.size X rfl rfl _ _ HA.out.tk.box tkX tkX6 HA.out.one ?_)
    (try simp only [Exit.inBlock, Exit.then])
    exact bodyPost_ret (HA.out.ret _ _ rfl _ rfl) rfl (by unfold takeWithinP; rw [if_neg h27, if_pos h32]; exact HA.out.fin)
  have l32 : ((c : Int) < 32) = False := eq_false (by omega)
  by_cases h255 : c = 255
  · clear hp0
    subst h255
    unfold zTok at HT
    go_enter Tryz.func124, Tryz.ntmps124
    go_upto_region 7 with fail
    generalize w.alloc (.cells #[.int .i64 0, .int .u8 0, .int .u8 0, .slice none 0 0, .string ⟨#[]⟩, .slice none 0 0] 66) = w1 at *
    have HA := Lib.hid (TkA.zero HT.out)
    go_wp2_with (refine wpList_store_row rfl _ _ _ rfl w.heap.size zTok rfl rfl _ _ HA.out.tk.box tkS6 rfl zTok_one ?_)
    (try simp only [Exit.inBlock, Exit.then])
    exact bodyPost_ret (HA.out.ret _ _ rfl _ rfl) rfl (by unfold takeWithinP; rw [if_neg (by decide), if_neg (by decide), if_pos rfl]; exact HA.out.fin)
  have hpl : s.pl = 1 ∨ s.pl = 2 ∨ s.pl = 3 ∨ s.pl = 4 ∨ s.pl = 5 := by omega
  have he : takeWithinP s c = stepP s (c % 128) := by unfold takeWithinP; rw [if_neg h27, if_neg h32, if_neg h255]
  rw [he]
  clear HT HB
  rcases hpl with e | e | e | e | e
  · rw [show stepP s (c % 128) = takeEscapedP s (c % 128) from by unfold stepP; rw [if_pos e]]
    exact within1_any g s c hc (by omega) h255 e w hp0
  · rw [show stepP s (c % 128) = takeEscIntersP s (c % 128) from by unfold stepP; rw [if_neg (by omega), if_pos e]]
    exact within2_any g s c hc (by omega) h255 e w hp0
  · rw [show stepP s (c % 128) = takeFirstP s (c % 128) from by unfold stepP; rw [if_neg (by omega), if_neg (by omega), if_pos e]]
    exact within3_any g s c hc (by omega) h255 e w hp0
  · rw [show stepP s (c % 128) = takeNumbersP s (c % 128) from by unfold stepP; rw [if_neg (by omega), if_neg (by omega), if_neg (by omega), if_pos e]]
    exact within4_any g s c hc (by omega) h255 e w hp0
  · rw [show stepP s (c % 128) = takeIntersP s (c % 128) from by unfold stepP; rw [if_neg (by omega), if_neg (by omega), if_neg (by omega), if_neg (by omega)]]
    exact within5_any g s c hc (by omega) h255 e w hp0
end Go.Proofs.YtfnamfkjbkhgeaaGreatDoor

namespace Go.Proofs.YtfnamfkjbkhgeaaGreatDoor

open Go Go.RowKit

set_option maxRecDepth 100000 in
set_option maxHeartbeats 8000000 in
theorem take24_any (g : Nat) (s : Ps) (c : Nat) (hc : c = 24) (w : World) (h : PsB w g s)
    (HS : Hid (∀ W : World, PsB W g ps0 → Calls Tryz.prog 145 #[.pointer (some ⟨g, 0, none⟩), .int .u8 (c : Int)] W (TkQ W g (takeOutsideP ps0 c)))) :
    Calls Tryz.prog 95 #[.pointer (some ⟨g, 0, none⟩), .int .u8 (c : Int)] w (TkQ w g (takeOutsideP ps0 c)) := by
  have HT := Lib.hid (TkW.start h)
  have HR := Lib.hid (fun W (h : PsB W g s) => reset_any g s W h)
  have n24 : ((c : Int) == 24) = true := by simp; omega
  clear hc
  have hix := ix0
  clear h
  generalize hR : (takeOutsideP ps0 c) = R at *
  clear hR
  unfold zTok at HT
  go_enter Tryz.func95, Tryz.ntmps95
  go_upto_region 1 with fail
  generalize w.alloc (.cells #[.int .i64 0, .int .u8 0, .int .u8 0, .slice none 0 0, .string ⟨#[]⟩, .slice none 0 0] 66) = w1 at *
  go_wp2_with fail
  refine (HR.out _ HT.out.prs).mono ?_
  rintro e w4 ⟨rfl, hp, hg⟩
  have HT4 := Lib.hid (HT.out.call hp hg)
  clear hp hg HT HR
  have q0 : w4.cell? ⟨g, 0, none⟩ = some (.int .i64 0) := HT4.out.prs.at_ 0 _ rfl
  have HQ : Hid (∀ W, Below w4.heap.size w4 W → W.cell? ⟨g, 0, none⟩ = some (.int .i64 0)) := Lib.hid (fun W hb => (HT4.out.prs.next hb).at_ 0 _ rfl)
  go_upto_region 7 with fail
  go_region_with (first
    | (go_at_call 123; refine (steps_any _).mono ?_; rintro e w2 ⟨rfl, hb⟩; have hb1 : Below w4.heap.size w4 w2 := ((Below.refl _ w4).drew).trans hb; have q1 := HQ.out w2 hb1)
    | (go_at_call 145; refine (HS.out _ (HT4.out.prs.next (‹Below w4.heap.size w4 _›))).mono ?_; intro e w3 hq; obtain ⟨t, A, cc, B, dd, rfl, ht, ha⟩ := hq.open6 (HT4.out.more (‹Below w4.heap.size w4 _›)); have HA := Lib.hid ha; obtain ⟨z0, z1, z2, z3, z4, z5⟩ := six ha.tk.box; obtain ⟨f0, f1, f2, f3, f4, f5⟩ := six_fr ha.tk.box; unfold Tok.cs; clear ha hq ht))
  all_goals
    have hrp := repl6 HA.out.tk.box (.int .i64 t.kd) (.int .u8 (t.cd : Int)) (.int .u8 (t.mr : Int)) (.slice A t.ps.length cc) (.string t.it) (.slice B t.dt.length dd)
    go_wp2_with fail
    (try simp only [Exit.inBlock, Exit.then])
    exact bodyPost_ret (HA.out.ret6 hrp _ _ rfl _ rfl) rfl (HA.out.fin6 hrp)
set_option maxRecDepth 100000 in
set_option maxHeartbeats 8000000 in
theorem take26_any (g : Nat) (s : Ps) (c : Nat) (hc : c = 26) (w : World) (h : PsB w g s)
    (HS : Hid (∀ W : World, PsB W g ps0 → Calls Tryz.prog 145 #[.pointer (some ⟨g, 0, none⟩), .int .u8 (c : Int)] W (TkQ W g (takeOutsideP ps0 c)))) :
    Calls Tryz.prog 95 #[.pointer (some ⟨g, 0, none⟩), .int .u8 (c : Int)] w (TkQ w g (takeOutsideP ps0 c)) := by
  have HT := Lib.hid (TkW.start h)
  have HR := Lib.hid (fun W (h : PsB W g s) => reset_any g s W h)
  have n24 : ((c : Int) == 24) = false := by simp; omega
  have n26 : ((c : Int) == 26) = true := by simp; omega
  clear hc
  have hix := ix0
  clear h
  generalize hR : (takeOutsideP ps0 c) = R at *
  clear hR
  unfold zTok at HT
  go_enter Tryz.func95, Tryz.ntmps95
  go_upto_region 1 with fail
  generalize w.alloc (.cells #[.int .i64 0, .int .u8 0, .int .u8 0, .slice none 0 0, .string ⟨#[]⟩, .slice none 0 0] 66) = w1 at *
  go_wp2_with fail
  refine (HR.out _ HT.out.prs).mono ?_
  rintro e w4 ⟨rfl, hp, hg⟩
  have HT4 := Lib.hid (HT.out.call hp hg)
  clear hp hg HT HR
  have q0 : w4.cell? ⟨g, 0, none⟩ = some (.int .i64 0) := HT4.out.prs.at_ 0 _ rfl
  have HQ : Hid (∀ W, Below w4.heap.size w4 W → W.cell? ⟨g, 0, none⟩ = some (.int .i64 0)) := Lib.hid (fun W hb => (HT4.out.prs.next hb).at_ 0 _ rfl)
  go_upto_region 7 with fail
  go_region_with (first
    | (go_at_call 123; refine (steps_any _).mono ?_; rintro e w2 ⟨rfl, hb⟩; have hb1 : Below w4.heap.size w4 w2 := ((Below.refl _ w4).drew).trans hb; have q1 := HQ.out w2 hb1)
    | (go_at_call 145; refine (HS.out _ (HT4.out.prs.next (‹Below w4.heap.size w4 _›))).mono ?_; intro e w3 hq; obtain ⟨t, A, cc, B, dd, rfl, ht, ha⟩ := hq.open6 (HT4.out.more (‹Below w4.heap.size w4 _›)); have HA := Lib.hid ha; obtain ⟨z0, z1, z2, z3, z4, z5⟩ := six ha.tk.box; obtain ⟨f0, f1, f2, f3, f4, f5⟩ := six_fr ha.tk.box; unfold Tok.cs; clear ha hq ht))
  all_goals
    have hrp := repl6 HA.out.tk.box (.int .i64 t.kd) (.int .u8 (t.cd : Int)) (.int .u8 (t.mr : Int)) (.slice A t.ps.length cc) (.string t.it) (.slice B t.dt.length dd)
    go_wp2_with fail
    (try simp only [Exit.inBlock, Exit.then])
    exact bodyPost_ret (HA.out.ret6 hrp _ _ rfl _ rfl) rfl (HA.out.fin6 hrp)
set_option maxRecDepth 100000 in
set_option maxHeartbeats 8000000 in
theorem takeO_any (g : Nat) (s : Ps) (c : Nat) (h24 : c ≠ 24) (h26 : c ≠ 26) (hp : s.pl = 0) (w : World) (h : PsB w g s)
    (HS : Hid (∀ W : World, PsB W g s → Calls Tryz.prog 145 #[.pointer (some ⟨g, 0, none⟩), .int .u8 (c : Int)] W (TkQ W g (takeOutsideP s c)))) :
    Calls Tryz.prog 95 #[.pointer (some ⟨g, 0, none⟩), .int .u8 (c : Int)] w (TkQ w g (takeOutsideP s c)) := by
  have HT := Lib.hid (TkW.start h)
  have HR := Lib.hid (fun W (h : PsB W g s) => reset_any g s W h)
  have n24 : ((c : Int) == 24) = false := by simp; omega
  have n26 : ((c : Int) == 26) = false := by simp; omega
  have hix := ix0
  clear h
  generalize hR : (takeOutsideP s c) = R at *
  clear hR
  unfold zTok at HT
  go_enter Tryz.func95, Tryz.ntmps95
  go_upto_region 1 with fail
  generalize w.alloc (.cells #[.int .i64 0, .int .u8 0, .int .u8 0, .slice none 0 0, .string ⟨#[]⟩, .slice none 0 0] 66) = w1 at *
  have q0 := HT.out.prs.at_ 0 _ rfl
  rw [hp] at q0
  have HQ := Lib.hid (fun W (hb : Below w1.heap.size w1 W) => (HT.out.prs.next hb).at_ 0 _ rfl)
  rw [hp] at HQ
  clear HR
  go_upto_region 7 with fail
  go_region_with (first
    | (go_at_call 123; refine (steps_any _).mono ?_; rintro e w2 ⟨rfl, hb⟩; have hb1 : Below w1.heap.size w1 w2 := ((Below.refl _ w1).drew).trans hb; have q1 := HQ.out w2 hb1)
    | (go_at_call 145; refine (HS.out _ (HT.out.prs.next (‹Below w1.heap.size w1 _›))).mono ?_; intro e w3 hq; obtain ⟨t, A, cc, B, dd, rfl, ht, ha⟩ := hq.open6 (HT.out.more (‹Below w1.heap.size w1 _›)); have HA := Lib.hid ha; obtain ⟨z0, z1, z2, z3, z4, z5⟩ := six ha.tk.box; obtain ⟨f0, f1, f2, f3, f4, f5⟩ := six_fr ha.tk.box; unfold Tok.cs; clear ha hq ht))
  all_goals
    have hrp := repl6 HA.out.tk.box (.int .i64 t.kd) (.int .u8 (t.cd : Int)) (.int .u8 (t.mr : Int)) (.slice A t.ps.length cc) (.string t.it) (.slice B t.dt.length dd)
    go_wp2_with fail
    (try simp only [Exit.inBlock, Exit.then])
    exact bodyPost_ret (HA.out.ret6 hrp _ _ rfl _ rfl) rfl (HA.out.fin6 hrp)
set_option maxRecDepth 100000 in
set_option maxHeartbeats 8000000 in
theorem takeT_any (g : Nat) (s : Ps) (c : Nat) (h24 : c ≠ 24) (h26 : c ≠ 26) (hp : s.pl = 6) (w : World) (h : PsB w g s)
    (HS : Hid (∀ W : World, PsB W g s → Calls Tryz.prog 151 #[.pointer (some ⟨g, 0, none⟩), .int .u8 (c : Int)] W (TkQ W g (takeTextP s c)))) :
    Calls Tryz.prog 95 #[.pointer (some ⟨g, 0, none⟩), .int .u8 (c : Int)] w (TkQ w g (takeTextP s c)) := by
  have HT := Lib.hid (TkW.start h)
  have HR := Lib.hid (fun W (h : PsB W g s) => reset_any g s W h)
  have n24 : ((c : Int) == 24) = false := by simp; omega
  have n26 : ((c : Int) == 26) = false := by simp; omega
  have hix := ix6
  clear h
  generalize hR : (takeTextP s c) = R at *
  clear hR
  unfold zTok at HT
  go_enter Tryz.func95, Tryz.ntmps95
  go_upto_region 1 with fail
  generalize w.alloc (.cells #[.int .i64 0, .int .u8 0, .int .u8 0, .slice none 0 0, .string ⟨#[]⟩, .slice none 0 0] 66) = w1 at *
  have q0 := HT.out.prs.at_ 0 _ rfl
  rw [hp] at q0
  have HQ := Lib.hid (fun W (hb : Below w1.heap.size w1 W) => (HT.out.prs.next hb).at_ 0 _ rfl)
  rw [hp] at HQ
  clear HR
  go_upto_region 7 with fail
  go_region_with (first
    | (go_at_call 123; refine (steps_any _).mono ?_; rintro e w2 ⟨rfl, hb⟩; have hb1 : Below w1.heap.size w1 w2 := ((Below.refl _ w1).drew).trans hb; have q1 := HQ.out w2 hb1)
    | (go_at_call 151; refine (HS.out _ (HT.out.prs.next (‹Below w1.heap.size w1 _›))).mono ?_; intro e w3 hq; obtain ⟨t, A, cc, B, dd, rfl, ht, ha⟩ := hq.open6 (HT.out.more (‹Below w1.heap.size w1 _›)); have HA := Lib.hid ha; obtain ⟨z0, z1, z2, z3, z4, z5⟩ := six ha.tk.box; obtain ⟨f0, f1, f2, f3, f4, f5⟩ := six_fr ha.tk.box; unfold Tok.cs; clear ha hq ht))
  all_goals
    have hrp := repl6 HA.out.tk.box (.int .i64 t.kd) (.int .u8 (t.cd : Int)) (.int .u8 (t.mr : Int)) (.slice A t.ps.length cc) (.string t.it) (.slice B t.dt.length dd)
    go_wp2_with fail
    (try simp only [Exit.inBlock, Exit.then])
    exact bodyPost_ret (HA.out.ret6 hrp _ _ rfl _ rfl) rfl (HA.out.fin6 hrp)
set_option maxRecDepth 100000 in
set_option maxHeartbeats 8000000 in
theorem takeE_any (g : Nat) (s : Ps) (c : Nat) (h24 : c ≠ 24) (h26 : c ≠ 26) (hp : s.pl = 7) (w : World) (h : PsB w g s)
    (HS : Hid (∀ W : World, PsB W g s → Calls Tryz.prog 152 #[.pointer (some ⟨g, 0, none⟩), .int .u8 (c : Int)] W (TkQ W g (takeTextEscapeP s c)))) :
    Calls Tryz.prog 95 #[.pointer (some ⟨g, 0, none⟩), .int .u8 (c : Int)] w (TkQ w g (takeTextEscapeP s c)) := by
  have HT := Lib.hid (TkW.start h)
  have HR := Lib.hid (fun W (h : PsB W g s) => reset_any g s W h)
  have n24 : ((c : Int) == 24) = false := by simp; omega
  have n26 : ((c : Int) == 26) = false := by simp; omega
  have hix := ix7
  clear h
  generalize hR : (takeTextEscapeP s c) = R at *
  clear hR
  unfold zTok at HT
  go_enter Tryz.func95, Tryz.ntmps95
  go_upto_region 1 with fail
  generalize w.alloc (.cells #[.int .i64 0, .int .u8 0, .int .u8 0, .slice none 0 0, .string ⟨#[]⟩, .slice none 0 0] 66) = w1 at *
  have q0 := HT.out.prs.at_ 0 _ rfl
  rw [hp] at q0
  have HQ := Lib.hid (fun W (hb : Below w1.heap.size w1 W) => (HT.out.prs.next hb).at_ 0 _ rfl)
  rw [hp] at HQ
  clear HR
  go_upto_region 7 with fail
  go_region_with (first
    | (go_at_call 123; refine (steps_any _).mono ?_; rintro e w2 ⟨rfl, hb⟩; have hb1 : Below w1.heap.size w1 w2 := ((Below.refl _ w1).drew).trans hb; have q1 := HQ.out w2 hb1)
    | (go_at_call 152; refine (HS.out _ (HT.out.prs.next (‹Below w1.heap.size w1 _›))).mono ?_; intro e w3 hq; obtain ⟨t, A, cc, B, dd, rfl, ht, ha⟩ := hq.open6 (HT.out.more (‹Below w1.heap.size w1 _›)); have HA := Lib.hid ha; obtain ⟨z0, z1, z2, z3, z4, z5⟩ := six ha.tk.box; obtain ⟨f0, f1, f2, f3, f4, f5⟩ := six_fr ha.tk.box; unfold Tok.cs; clear ha hq ht))
  all_goals
    have hrp := repl6 HA.out.tk.box (.int .i64 t.kd) (.int .u8 (t.cd : Int)) (.int .u8 (t.mr : Int)) (.slice A t.ps.length cc) (.string t.it) (.slice B t.dt.length dd)
    go_wp2_with fail
    (try simp only [Exit.inBlock, Exit.then])
    exact bodyPost_ret (HA.out.ret6 hrp _ _ rfl _ rfl) rfl (HA.out.fin6 hrp)
set_option maxRecDepth 100000 in
set_option maxHeartbeats 8000000 in
theorem takeI_any (g : Nat) (s : Ps) (c : Nat) (hc : c < 256) (h24 : c ≠ 24) (h26 : c ≠ 26) (hp : 1 ≤ s.pl ∧ s.pl ≤ 5) (w : World) (h : PsB w g s) :
    Calls Tryz.prog 95 #[.pointer (some ⟨g, 0, none⟩), .int .u8 (c : Int)] w (TkQ w g (takeWithinP s c)) := by
  have HT := Lib.hid (TkW.start h)
  have HC := Lib.hid (fun W (h : PsB W g s) => takeWithin_any g s c hc hp W h)
  have n24 : ((c : Int) == 24) = false := by simp; omega
  have n26 : ((c : Int) == 26) = false := by simp; omega
  have p0 : (s.pl == 0) = false := by simp; omega
  have p6 : (s.pl == 6) = false := by simp; omega
  have p7 : (s.pl == 7) = false := by simp; omega
  have q0 : PsB w g s := h
  clear h h24 h26 hp hc q0
  unfold zTok at HT
  go_enter Tryz.func95, Tryz.ntmps95
  go_upto_region 1 with fail
  generalize w.alloc (.cells #[.int .i64 0, .int .u8 0, .int .u8 0, .slice none 0 0, .string ⟨#[]⟩, .slice none 0 0] 66) = w1 at *
  have q0 := HT.out.prs.at_ 0 _ rfl
  go_upto_region 8 with fail
  go_wp2_with fail
  refine (HC.out _ HT.out.prs).mono ?_
  intro e w2 hq
  obtain ⟨X, rfl, ha⟩ := hq.open HT.out
  have HA := Lib.hid ha
  clear ha hq
  have tkX : (Tryz.prog.info? 66).map (·.size) = some X.size := by rw [HA.out.six]; exact tkS6
  have tkX6 : zTok.size = X.size := by rw [HA.out.six]; rfl
  go_wp2_with (refine wpList_store_row rfl _ _ _ rfl w.heap.size X rfl rfl _ _ HA.out.tk.box tkX tkX6 HA.out.one ?_)
  (try simp only [Exit.inBlock, Exit.then])
  exact bodyPost_ret (HA.out.ret _ _ rfl _ rfl) rfl (by skip; exact HA.out.fin)
end Go.Proofs.YtfnamfkjbkhgeaaGreatDoor

namespace Go.Proofs.YtfnamfkjbkhgeaaGreatDoor

open Go Go.RowKit

/-- What is done with a byte, but behind an escape in a text. -/
theorem take0_any (g : Nat) (s : Ps) (c : Nat) (hc : c < 256) (hp : 0 ≤ s.pl ∧ s.pl ≤ 7) (h7 : s.pl = 7 → c = 24 ∨ c = 26) (w : World) (h : PsB w g s) :
    Calls Tryz.prog 95 #[.pointer (some ⟨g, 0, none⟩), .int .u8 (c : Int)] w (TkQ w g (takeP0 s c)) := by
  by_cases hcc : c = 24 ∨ c = 26
  · rw [show takeP0 s c = takeOutsideP ps0 c from by unfold takeP0 takePl; rw [if_pos hcc]; rfl]
    rcases hcc with e | e
    · exact take24_any g s c e w h (Lib.hid fun W h => takeOutside_any g ps0 c W h)
    · exact take26_any g s c e w h (Lib.hid fun W h => takeOutside_any g ps0 c W h)
  · have h7' : s.pl ≠ 7 := fun e => hcc (h7 e)
    have e1 : takeP0 s c = takePl s c := by unfold takeP0; rw [if_neg hcc]
    rw [e1]
    unfold takePl
    by_cases p0 : s.pl = 0
    · rw [if_pos p0]; exact takeO_any g s c (fun e => hcc (.inl e)) (fun e => hcc (.inr e)) p0 w h (Lib.hid fun W h => takeOutside_any g s c W h)
    · rw [if_neg p0]
      by_cases p6 : s.pl = 6
      · rw [if_pos p6]; exact takeT_any g s c (fun e => hcc (.inl e)) (fun e => hcc (.inr e)) p6 w h (Lib.hid fun W h => takeText_any g s c W h)
      · rw [if_neg p6]; exact takeI_any g s c hc (fun e => hcc (.inl e)) (fun e => hcc (.inr e)) (by omega) w h
set_option maxRecDepth 100000 in
set_option maxHeartbeats 8000000 in
theorem takeTextEscape_any (g : Nat) (s : Ps) (c : Nat) (hc : c < 256) (w : World) (h : PsB w g s) :
    Calls Tryz.prog 152 #[.pointer (some ⟨g, 0, none⟩), .int .u8 (c : Int)] w (TkQ w g (takeTextEscapeP s c)) := by
  have HT := Lib.hid (TkW.start h)
  have HB := Lib.hid (fun W (h : PsB W g s) => begin_any g s W h)
  have HE := Lib.hid (fun W (h : PsB W g s) => end_any g s W h)
  have HC := Lib.hid (fun W (h : PsB W g begP) => take0_any g begP c hc ⟨by decide, by decide⟩ (fun e => by cases e) W h)
  clear h
  unfold zTok at HT
  go_enter Tryz.func152, Tryz.ntmps152
  go_upto_region 1 with fail
  generalize w.alloc (.cells #[.int .i64 0, .int .u8 0, .int .u8 0, .slice none 0 0, .string ⟨#[]⟩, .slice none 0 0] 66) = w1 at *
  by_cases h92 : c = 92
  · subst h92
    go_upto_region 2 with fail
    go_wp2_with fail
    refine (HE.out _ HT.out.prs).mono ?_
    intro e w2 hq
    obtain ⟨X, rfl, ha⟩ := hq.open HT.out
    have HA := Lib.hid ha
    clear ha hq
    have tkX : (Tryz.prog.info? 66).map (·.size) = some X.size := by rw [HA.out.six]; exact tkS6
    have tkX6 : zTok.size = X.size := by rw [HA.out.six]; rfl
    go_wp2_with (refine wpList_store_row rfl _ _ _ rfl w.heap.size X rfl rfl _ _ HA.out.tk.box tkX tkX6 HA.out.one ?_)
    (try simp only [Exit.inBlock, Exit.then])
    exact bodyPost_ret (HA.out.ret _ _ rfl _ rfl) rfl (by unfold takeTextEscapeP; rw [if_pos (.inl rfl)]; exact HA.out.fin)
  have n92 : ((c : Int) == 92) = false := by simp; omega
  by_cases h220 : c = 220
  · subst h220
    go_upto_region 2 with fail
    go_wp2_with fail
    refine (HE.out _ HT.out.prs).mono ?_
    intro e w2 hq
    obtain ⟨X, rfl, ha⟩ := hq.open HT.out
    have HA := Lib.hid ha
    clear ha hq
    have tkX : (Tryz.prog.info? 66).map (·.size) = some X.size := by rw [HA.out.six]; exact tkS6
    have tkX6 : zTok.size = X.size := by rw [HA.out.six]; rfl
    go_wp2_with (refine wpList_store_row rfl _ _ _ rfl w.heap.size X rfl rfl _ _ HA.out.tk.box tkX tkX6 HA.out.one ?_)
    (try simp only [Exit.inBlock, Exit.then])
    exact bodyPost_ret (HA.out.ret _ _ rfl _ rfl) rfl (by unfold takeTextEscapeP; rw [if_pos (.inr rfl)]; exact HA.out.fin)
  have n220 : ((c : Int) == 220) = false := by simp; omega
  go_wp2_with fail
  refine (HB.out _ HT.out.prs).mono ?_
  rintro e w5 ⟨rfl, hp, hg⟩
  have HT5 := Lib.hid (HT.out.call hp hg)
  clear hp hg HT
  go_wp2_with fail
  refine (HC.out _ HT5.out.prs).mono ?_
  intro e w2 hq
  obtain ⟨X, rfl, ha⟩ := hq.open HT5.out
  have HA := Lib.hid ha
  clear ha hq
  have tkX : (Tryz.prog.info? 66).map (·.size) = some X.size := by rw [HA.out.six]; exact tkS6
  have tkX6 : zTok.size = X.size := by rw [HA.out.six]; rfl
  go_wp2_with (refine wpList_store_row rfl _ _ _ rfl w.heap.size X rfl rfl _ _ HA.out.tk.box tkX tkX6 HA.out.one ?_)
  (try simp only [Exit.inBlock, Exit.then])
  exact bodyPost_ret (HA.out.ret _ _ rfl _ rfl) rfl (by unfold takeTextEscapeP; rw [if_neg (by omega)]; exact HA.out.fin)
/-- What is done with a byte. -/
theorem take_any (g : Nat) (s : Ps) (c : Nat) (hc : c < 256) (hp : 0 ≤ s.pl ∧ s.pl ≤ 7) (w : World) (h : PsB w g s) :
    Calls Tryz.prog 95 #[.pointer (some ⟨g, 0, none⟩), .int .u8 (c : Int)] w (TkQ w g (takeP s c)) := by
  unfold takeP
  by_cases h7 : s.pl = 7 ∧ ¬ (c = 24 ∨ c = 26)
  · rw [if_pos h7]
    exact takeE_any g s c (fun e => h7.2 (.inl e)) (fun e => h7.2 (.inr e)) h7.1 w h (Lib.hid fun W h => takeTextEscape_any g s c hc W h)
  · rw [if_neg h7]
    exact take0_any g s c hc hp (fun e => by by_cases hcc : c = 24 ∨ c = 26; exact hcc; exact absurd ⟨e, hcc⟩ h7) w h
end Go.Proofs.YtfnamfkjbkhgeaaGreatDoor

namespace Go.Proofs.YtfnamfkjbkhgeaaGreatDoor

open Go Go.RowKit

/-- A place that there is. -/
def Ps.R (s : Ps) : Prop := 0 ≤ s.pl ∧ s.pl ≤ 7
theorem R0 : ps0.R := ⟨by decide, by decide⟩
theorem Rbeg : begP.R := ⟨by decide, by decide⟩
theorem Ps.R.same {s t : Ps} (h : s.R) (e : t.pl = s.pl) : t.R := by unfold Ps.R; rw [e]; exact h
theorem pl_inter (s : Ps) (c : Nat) : (takeInterP s c).pl = s.pl := by unfold takeInterP; split <;> rfl
theorem pl_hold (s : Ps) (c : Nat) : (holdP s c).pl = s.pl := by unfold holdP; split <;> rfl
theorem R_code (s : Ps) (c : Nat) : (takeCodeP s c).1.R := by
  unfold takeCodeP
  split
  · exact ⟨by show (0 : Int) ≤ 6; decide, by show (6 : Int) ≤ 7; decide⟩
  · exact R0
theorem R_pl (s : Ps) (n : Int) (h : 0 ≤ n ∧ n ≤ 7) : ({s with pl := n} : Ps).R := h
theorem R_inters {s : Ps} (h : s.R) (c : Nat) : (takeIntersP s c).1.R := by
  unfold takeIntersP
  split
  · exact R_code _ _
  · split
    · exact Ps.R.same (R_pl s 5 (by decide)) (pl_inter _ _)
    · exact h
theorem R_numbers {s : Ps} (h : s.R) (c : Nat) : (takeNumbersP s c).1.R := by
  unfold takeNumbersP
  split
  · exact h
  · exact R_inters h c
theorem R_first (s : Ps) (c : Nat) : (takeFirstP s c).1.R := by
  unfold takeFirstP
  split
  · exact ⟨by show (0 : Int) ≤ 4; decide, by show (4 : Int) ≤ 7; decide⟩
  · exact R_numbers (R_pl s 4 (by decide)) c
theorem R_escInters (s : Ps) (c : Nat) : (takeEscIntersP s c).1.R := by
  unfold takeEscIntersP
  split
  · exact Ps.R.same (R_pl s 2 (by decide)) (pl_inter _ _)
  · exact R_code _ _
theorem R_escaped (s : Ps) (c : Nat) : (takeEscapedP s c).1.R := by
  unfold takeEscapedP
  split; exact ⟨by show (0 : Int) ≤ 3; decide, by show (3 : Int) ≤ 7; decide⟩
  split; exact ⟨by show (0 : Int) ≤ 3; decide, by show (3 : Int) ≤ 7; decide⟩
  split; exact ⟨by show (0 : Int) ≤ 6; decide, by show (6 : Int) ≤ 7; decide⟩
  split; exact ⟨by show (0 : Int) ≤ 6; decide, by show (6 : Int) ≤ 7; decide⟩
  split; exact ⟨by show (0 : Int) ≤ 6; decide, by show (6 : Int) ≤ 7; decide⟩
  split; exact ⟨by show (0 : Int) ≤ 6; decide, by show (6 : Int) ≤ 7; decide⟩
  split; exact R0
  exact R_escInters s c
theorem R_outside {s : Ps} (h : s.R) (c : Nat) : (takeOutsideP s c).1.R := by
  unfold takeOutsideP
  split; exact Rbeg
  split; exact h
  split; exact h
  exact h
theorem R_text {s : Ps} (h : s.R) (c : Nat) : (takeTextP s c).1.R := by
  unfold takeTextP
  split; exact ⟨by show (0 : Int) ≤ 7; decide, by show (7 : Int) ≤ 7; decide⟩
  split; exact R0
  split; exact h.same (pl_hold _ _)
  exact h
theorem R_step {s : Ps} (h : s.R) (c : Nat) : (stepP s c).1.R := by
  unfold stepP
  split; exact R_escaped _ _
  split; exact R_escInters _ _
  split; exact R_first _ _
  split; exact R_numbers h _
  exact R_inters h _
theorem R_within {s : Ps} (h : s.R) (c : Nat) : (takeWithinP s c).1.R := by
  unfold takeWithinP
  split; exact Rbeg
  split; exact h
  split; exact h
  exact R_step h _
theorem R_takePl {s : Ps} (h : s.R) (c : Nat) : (takePl s c).1.R := by
  unfold takePl
  split; exact R_outside h _
  split; exact R_text h _
  exact R_within h _
theorem R_take0 {s : Ps} (h : s.R) (c : Nat) : (takeP0 s c).1.R := by
  unfold takeP0
  split; exact R_takePl R0 _
  exact R_takePl h _
theorem R_take {s : Ps} (h : s.R) (c : Nat) : (takeP s c).1.R := by
  unfold takeP
  split
  · unfold takeTextEscapeP
    split; exact R0
    exact R_take0 Rbeg _
  · exact R_take0 h _
/-! Lists of tokens. -/
def OTl (w : World) (base : Nat) : List (Array Value) → List Tok → Prop
  | [], [] => True
  | x :: xs, t :: ts => OTk w base (.agg x) t ∧ OTl w base xs ts
  | _, _ => False
theorem OTl.keep {w w' : World} {base : Nat} {row : Option Nat} (hg : w.grownBy w' row) (hr : ∀ k, row = some k → k < base) : ∀ {xs : List (Array Value)} {ts : List Tok}, OTl w base xs ts → OTl w' base xs ts
  | [], [], _ => trivial
  | _ :: _, _ :: _, h => ⟨h.1.keep hg hr, OTl.keep hg hr h.2⟩
theorem OTl.snoc {w : World} {base : Nat} {x : Array Value} {t : Tok} (hx : OTk w base (.agg x) t) : ∀ {xs : List (Array Value)} {ts : List Tok}, OTl w base xs ts → OTl w base (xs ++ [x]) (ts ++ [t])
  | [], [], _ => ⟨hx, trivial⟩
  | _ :: _, _ :: _, h => ⟨h.1, OTl.snoc hx h.2⟩
theorem OTl.len {w : World} {base : Nat} : ∀ {xs : List (Array Value)} {ts : List Tok}, OTl w base xs ts → xs.length = ts.length
  | [], [], _ => rfl
  | _ :: _, _ :: _, h => by simp [OTl.len h.2]
/-- A list of tokens, it and they of memory of their own. -/
def OTks (w : World) (base : Nat) (v : Value) (ts : List Tok) : Prop := ∃ xs : List (Array Value), w.ownsRow base 66 6 v ts.length (xs.flatMap Array.toList) ∧ OTl w base xs ts
theorem OTks.nil (w : World) (base : Nat) : OTks w base (.slice none 0 0) [] := ⟨[], World.ownsRow_nil _ _ _ _, trivial⟩
theorem OTks.keep {w w' : World} {base : Nat} {v : Value} {ts : List Tok} {row : Option Nat} (h : OTks w base v ts) (hg : w.grownBy w' row) (hr : ∀ k, row = some k → k < base) : OTks w' base v ts := by
  obtain ⟨xs, h1, h2⟩ := h
  refine ⟨xs, World.ownsRow.kept (row := row) h1 hg ?_, h2.keep hg hr⟩
  rcases hk : v.ownBlock with _ | k
  · exact .inl rfl
  · right; intro e; have q1 := (World.ownsRow.lt h1 k hk).1; have q2 := hr k e.symm; omega
/-! What is done with a stream. -/
def hiP (s : Ps) (c : Nat) : Ps × Nat := if 128 ≤ c ∧ c ≤ 159 then ((takeP s 27).1, c - 64) else (s, c)
def feedC (s : Ps) (c : Nat) : Ps × List Tok := if c = 0 ∨ c = 127 then (s, []) else ((takeP s c).1, if (takeP s c).2.kd = 0 then [] else [(takeP s c).2])
def feedB (s : Ps) (c : Nat) : Ps × List Tok := feedC (hiP s c).1 (hiP s c).2
def feedL (s : Ps) (l : List Nat) : Ps × List Tok := l.foldl (fun r c => ((feedB r.1 c).1, r.2 ++ (feedB r.1 c).2)) (s, [])
theorem feedL_snoc (s : Ps) (l : List Nat) (c : Nat) : feedL s (l ++ [c]) = ((feedB (feedL s l).1 c).1, (feedL s l).2 ++ (feedB (feedL s l).1 c).2) := by simp [feedL]
theorem R_hi {s : Ps} (h : s.R) (c : Nat) : (hiP s c).1.R := by
  unfold hiP
  split
  · exact R_take h _
  · exact h
theorem R_feedC {s : Ps} (h : s.R) (c : Nat) : (feedC s c).1.R := by
  unfold feedC
  split
  · exact h
  · exact R_take h _
theorem R_feedB {s : Ps} (h : s.R) (c : Nat) : (feedB s c).1.R := R_feedC (R_hi h c) _
theorem feedB_len (s : Ps) (c : Nat) : (feedB s c).2.length ≤ 1 := by
  unfold feedB feedC
  split
  · exact Nat.zero_le _
  · show (if _ then ([] : List Tok) else _).length ≤ 1
    split
    · exact Nat.zero_le _
    · exact Nat.le_refl _
theorem fold_facts (l : List Nat) : ∀ r : Ps × List Tok, r.1.R → (l.foldl (fun r c => ((feedB r.1 c).1, r.2 ++ (feedB r.1 c).2)) r).1.R ∧ (l.foldl (fun r c => ((feedB r.1 c).1, r.2 ++ (feedB r.1 c).2)) r).2.length ≤ r.2.length + l.length := by
  induction l with
  | nil => intro r h; exact ⟨h, Nat.le_refl _⟩
  | cons c l ih =>
    intro r h
    have h1 := ih ((feedB r.1 c).1, r.2 ++ (feedB r.1 c).2) (R_feedB h c)
    refine ⟨h1.1, Nat.le_trans h1.2 ?_⟩
    have := feedB_len r.1 c
    simp only [List.length_append, List.length_cons]
    omega
theorem feedL_facts (s : Ps) (h : s.R) (l : List Nat) : (feedL s l).1.R ∧ (feedL s l).2.length ≤ l.length := by
  have := fold_facts l (s, []) h
  refine ⟨this.1, ?_⟩
  have h2 := this.2
  simp only [List.length_nil, Nat.zero_add] at h2
  exact h2
end Go.Proofs.YtfnamfkjbkhgeaaGreatDoor

namespace Go.Proofs.YtfnamfkjbkhgeaaGreatDoor

open Go Go.RowKit

/-- What is known in the midst of a feeding. -/
structure FdW (w W : World) (g : Nat) (r : Ps × List Tok) (v : Value) : Prop where
  tok : OTks W w.heap.size v r.2
  prs : PsB W g r.1
  gro : w.grownBy W (some g)
  pl : r.1.R
  gl : g < w.heap.size
def FdQ (w : World) (g : Nat) (r : Ps × List Tok) (e : Ending) (w' : World) : Prop := ∃ v, e = .returned v ∧ FdW w w' g r v
theorem FdW.call {w W W' : World} {g : Nat} {r : Ps × List Tok} {v : Value} (h : FdW w W g r v) {s' : Ps} (hp : PsB W' g s') (hg : W.grownBy W' (some g)) (hR : s'.R) : FdW w W' g (s', r.2) v :=
  ⟨h.tok.keep hg (fun k hk => by cases hk; exact h.gl), hp, grown_trans h.gro hg, hR, h.gl⟩
theorem FdW.more {w W W' : World} {g : Nat} {r : Ps × List Tok} {v : Value} (h : FdW w W g r v) (hb : Below W.heap.size W W') : FdW w W' g r v :=
  ⟨h.tok.keep (row := none) (grown_below hb) (fun k hk => by cases hk), h.prs.next hb, grown_trans h.gro (grown_below hb), h.pl, h.gl⟩
theorem rbyt_grown {w W : World} {A : Option Addr} {ns : List Nat} {g : Nat} (h : RByt w A ns) (hg : w.grownBy W (some g)) (hA : ∀ ad, A = some ad → ad.block ≠ g) : RByt W A ns := by
  refine ⟨h.1, fun hn => ?_⟩
  obtain ⟨ad, rfl, hb, hc⟩ := h.2 hn
  refine ⟨ad, rfl, Nat.lt_of_lt_of_le hb hg.size, fun j u hu => ?_⟩
  have hbl : ∀ k, (ad.add k).block = ad.block := fun k => by unfold Addr.add; split <;> rfl
  have hk := hg.block ad.block hb (by intro e; exact hA ad rfl (by simpa using e))
  have := hc j u hu
  unfold World.cell? at this ⊢
  rw [hbl] at this ⊢
  rw [hk]
  exact this
theorem own_apart {w : World} {b1 b2 n1 n2 s1 s2 : Nat} {e1 e2 : TypeId} {v1 v2 : Value} {xs1 xs2 : List Value} (h1 : w.ownsRow b1 e1 s1 v1 n1 xs1) (h2 : w.ownsRow b2 e2 s2 v2 n2 xs2) (he : e1 ≠ e2) : v1.ownBlock = none ∨ v1.ownBlock ≠ v2.ownBlock := by
  rcases h1.2 with ⟨rfl, _⟩ | ⟨g1, cap1, cur1, rfl, _, hg1, _⟩
  · exact .inl rfl
  · right
    rcases h2.2 with ⟨rfl, _⟩ | ⟨g2, cap2, cur2, rfl, _, hg2, _⟩
    · simp [Value.ownBlock]
    · intro e
      obtain rfl : g1 = g2 := by simpa [Value.ownBlock] using e
      rw [hg1] at hg2
      injection hg2 with hg2
      injection hg2 with _ hg2 _
      exact he hg2
theorem OTk.keepR {w w' : World} {base b n : Nat} {v u : Value} {t : Tok} {xs : List Value} (h : OTk w base v t) (ho : w.ownsRow b 66 6 u n xs) (hg : w.grownBy w' u.ownBlock) : OTk w' base v t := by
  obtain ⟨A, c, B, d, e, h1, h2⟩ := h
  exact ⟨A, c, B, d, e, World.ownsRow.kept h1 hg (own_apart h1 ho (by decide)), World.ownsRow.kept h2 hg (own_apart h2 ho (by decide))⟩
theorem OTl.keepR {w w' : World} {base b n : Nat} {u : Value} {ys : List Value} (ho : w.ownsRow b 66 6 u n ys) (hg : w.grownBy w' u.ownBlock) : ∀ {xs : List (Array Value)} {ts : List Tok}, OTl w base xs ts → OTl w' base xs ts
  | [], [], _ => trivial
  | _ :: _, _ :: _, h => ⟨h.1.keepR ho hg, OTl.keepR ho hg h.2⟩
/-- One token more. -/
theorem FdW.push {w W W' : World} {g : Nat} {r : Ps × List Tok} {u v : Value} {t : Tok} {X : Array Value} {xs : List (Array Value)} (h : FdW w W g r u) (ho : W.ownsRow w.heap.size 66 6 u r.2.length (xs.flatMap Array.toList)) (hl : OTl W w.heap.size xs r.2) (hX : OTk W w.heap.size (.agg X) t)
    (hown : W'.ownsRow w.heap.size 66 6 v (r.2.length + 1) (xs.flatMap Array.toList ++ X.toList)) (hg : W.grownBy W' u.ownBlock) : FdW w W' g (r.1, r.2 ++ [t]) v := by
  have hk : ∀ k, u.ownBlock = some k → w.heap.size ≤ k := fun k hk => (World.ownsRow.lt ho k hk).1
  have hpr : u.ownBlock ≠ some g := fun e => by have := hk g e; have := h.gl; omega
  refine ⟨⟨xs ++ [X], ?_, OTl.snoc (hX.keepR ho hg) (hl.keepR ho hg)⟩, ⟨(hg.block g h.prs.lt (fun e => hpr e.symm)).trans h.prs.blk, h.prs.ok⟩, ⟨hg.os.trans h.gro.os, hg.tape.trans h.gro.tape, hg.output.trans h.gro.output, Nat.le_trans h.gro.size hg.size, fun k hkl hn => (hg.block k (Nat.lt_of_lt_of_le hkl h.gro.size) (fun e => by have := hk k e.symm; omega)).trans (h.gro.block k hkl hn)⟩, h.pl, h.gl⟩
  rw [List.length_append, List.flatMap_append, List.flatMap_singleton]
  exact hown
theorem info_tk : ∃ i, Tryz.prog.info? 66 = some i ∧ i.zero = some (.agg zTok) ∧ i.size = 6 ∧ i.bytes ≤ 100 := by
  have h : (Tryz.prog.info? 66).map (fun i => (i.zero, i.size, decide (i.bytes ≤ 100))) = some (some (.agg zTok), 6, true) := by kernel_rfl
  cases hi : Tryz.prog.info? 66 with
  | none => rw [hi] at h; cases h
  | some i =>
    rw [hi] at h
    simp only [Option.map_some, Option.some.injEq, Prod.mk.injEq, decide_eq_true_eq] at h
    exact ⟨i, rfl, h.1, h.2.1, h.2.2⟩
set_option maxRecDepth 100000 in
set_option maxHeartbeats 16000000 in
theorem feed_any (g : Nat) (s : Ps) (hR : s.R) (A : Option Addr) (cap : Nat) (ns : List Nat) (hn : ∀ n ∈ ns, n < 256) (hl : ns.length ≤ 100000000) (hA : ∀ ad, 0 < ns.length → A = some ad → ad.block ≠ g) (w : World) (h : PsB w g s) (hr : RByt w A ns) :
    Calls Tryz.prog 55 #[.pointer (some ⟨g, 0, none⟩), .slice A ns.length cap] w (FdQ w g (feedL s ns)) := by
  have HW0 := Lib.hid (show FdW w w g (feedL s (ns.take 0)) (.slice none 0 0) from ⟨OTks.nil _ _, h, grown_refl _ _, hR, h.lt⟩)
  have HR := Lib.hid hr
  have HA := Lib.hid hA
  have HN := Lib.hid hn
  have HS := Lib.hid hR
  obtain ⟨i0, hi0, hi1, hi2, hi3⟩ := info_tk
  have HI := Lib.hid (And.intro hi0 (And.intro hi1 (And.intro hi2 hi3)))
  clear h hr hA hn hR hi0 hi1 hi2 hi3
  go_enter Tryz.func55, Tryz.ntmps55
  go_wp2_with fail
  go_loopw [5, 11] (fun v j wr => ∃ i : Nat, i ≤ ns.length ∧ j = .int .i64 i ∧ FdW w wr g (feedL s (ns.take i)) v) (fun _ j _ => ns.length - (intOf j).toNat)
  case atStart => exact ⟨0, by omega, rfl, HW0.out⟩
  case round =>
    obtain ⟨i, hi, rfl, hw⟩ := hrel
    have HW := Lib.hid hw
    clear hw HW0
    by_cases hlt : i < ns.length
    · have hrr := rbyt_grown HR.out HW.out.gro (fun ad e => HA.out ad (by omega) e)
      obtain ⟨ad, rfl, _, hc⟩ := RByt.at_ hrr hlt
      have hwi1 : IntKind.i64.wrap ((i : Int) + 1) = (i : Int) + 1 := IntWalk.i64_in _ (by omega)
      have m0 : (0 : Int) ≤ (i : Int) := by omega
      have m1 : ((i : Int) < (ns.length : Int)) = True := eq_true (by omega)
      have hfl : Hid ((feedL s (ns.take i)).2.length ≤ 100000000) := Lib.hid (by have := (feedL_facts s HS.out (ns.take i)).2; simp at this; omega)
      have HSn : Hid (feedL s (ns.take (i + 1)) = ((feedB (feedL s (ns.take i)).1 ns[i]).1, (feedL s (ns.take i)).2 ++ (feedB (feedL s (ns.take i)).1 ns[i]).2)) := Lib.hid (by rw [List.take_succ_eq_append_getElem hlt, feedL_snoc])
      have hc256 := HN.out ns[i] (List.getElem_mem hlt)
      generalize feedL s (ns.take i) = r at *
      obtain ⟨r2, hr2⟩ : ∃ r2, feedL s (ns.take (i + 1)) = r2 := ⟨_, rfl⟩
      rw [hr2] at HSn
      have HSx := Lib.hid hr2
      clear hr2
      generalize ns[i] = c at *
      clear hrr
      by_cases hhi : 128 ≤ c ∧ c ≤ 159
      · obtain ⟨h1, h2⟩ := hhi
        have HTk := Lib.hid (fun W h => take_any g r.1 27 (by omega) HW.out.pl W h)
        have HTR := Lib.hid (R_take HW.out.pl 27)
        obtain ⟨c1, hcc⟩ : ∃ c1, c = c1 + 64 := ⟨c - 64, by omega⟩
        have HSB : Hid (r2 = ((feedC (takeP r.1 27).1 c1).1, r.2 ++ (feedC (takeP r.1 27).1 c1).2)) := Lib.hid (by rw [HSn.out]; unfold feedB hiP; rw [if_pos ⟨h1, h2⟩, show c - 64 = c1 from by omega])
        have hsub : IntKind.u8.wrap ((c : Int) - 64) = (c1 : Int) := by rw [IntKind.wrap_u8]; omega
        have l1 : ((128 : Int) ≤ (c : Int)) = True := eq_true (by omega)
        have l2 : ((c : Int) ≤ 159) = True := eq_true (by omega)
        have hc1 : c1 < 256 := by omega
        clear HSn h1 h2 hcc
        generalize takeP r.1 27 = q0 at *
        go_wp2_with fail
        refine (HTk.out _ HW.out.prs).mono ?_
        rintro e w2 ⟨v, rfl, _, hp, hg⟩
        have HW1 : Hid (FdW w w2 g (q0.1, r.2) u5) := Lib.hid (HW.out.call hp hg HTR.out)
        clear hp hg HTR HTk HW hc hc256
        obtain ⟨p, q0t⟩ := q0
        dsimp only at HSB HW1
        by_cases hz : c1 = 0 ∨ c1 = 127
        · have hfc : feedC p c1 = (p, []) := by unfold feedC; rw [if_pos hz]
          have HF : Hid (r2 = (p, r.2)) := Lib.hid (by rw [HSB.out, hfc]; simp)
          clear hfc HSB
          rcases hz with h0 | h0
          · have z0 : ((c1 : Int) == 0) = true := by simp; omega
            clear h0
            go_wp2_with fail
            go_roundw
            case rel => exact ⟨i + 1, by omega, by go_num, by rw [HSx.out, HF.out]; exact HW1.out⟩
            case measure => simp [intOf]; omega
          · have z0 : ((c1 : Int) == 0) = false := by simp; omega
            have z127 : ((c1 : Int) == 127) = true := by simp; omega
            clear h0
            go_wp2_with fail
            go_roundw
            case rel => exact ⟨i + 1, by omega, by go_num, by rw [HSx.out, HF.out]; exact HW1.out⟩
            case measure => simp [intOf]; omega
        · have hfc : feedC p c1 = ((takeP p c1).1, if (takeP p c1).2.kd = 0 then [] else [(takeP p c1).2]) := by unfold feedC; rw [if_neg hz]
          have z0 : ((c1 : Int) == 0) = false := by simp; omega
          have z127 : ((c1 : Int) == 127) = false := by simp; omega
          have HTk := Lib.hid (fun W h => take_any g p c1 hc1 HW1.out.pl W h)
          have HTR := Lib.hid (R_take HW1.out.pl c1)
          have HF : Hid (r2 = ((takeP p c1).1, r.2 ++ if (takeP p c1).2.kd = 0 then [] else [(takeP p c1).2])) := Lib.hid (by rw [HSB.out, hfc])
          clear hfc HSB hz
          dsimp only at HTR HF
          generalize takeP p c1 = q at *
          go_wp2_with fail
          refine (HTk.out _ HW1.out.prs).mono ?_
          rintro e w3 ⟨v, rfl, ho, hp, hg⟩
          obtain ⟨A3, cc, B3, dd, rfl, o1, o2⟩ := ho
          have hsz : w.heap.size ≤ w2.heap.size := HW1.out.gro.size
          have HO : Hid (OTk w3 w.heap.size (.agg (q.2.cs A3 cc B3 dd)) q.2) := Lib.hid (OTk.more ⟨A3, cc, B3, dd, rfl, o1, o2⟩ hsz)
          have HW3 := Lib.hid (HW1.out.call hp hg HTR.out)
          clear o1 o2 hp hg hsz HW1 HTk HTR
          obtain ⟨q1, t⟩ := q
          dsimp only at HO HF HW3
          have hal : Below w3.heap.size w3 (w3.alloc (.cells (t.cs A3 cc B3 dd) 66)) := (Below.refl _ _).alloc (Nat.le_refl _) _
          have HW4 := Lib.hid (HW3.out.more hal)
          have HO4 := Lib.hid (HO.out.keep (row := none) (grown_below hal) (fun k hk => by cases hk))
          have HX := Lib.hid (Blk.new w3 66 (t.cs A3 cc B3 dd))
          have HX1 : Hid (∀ u ∈ (t.cs A3 cc B3 dd).toList, u.oneCell' = true) := Lib.hid (fun u hu => by have := Array.all_eq_true_iff_forall_mem.1 (tk_cs_one t A3 cc B3 dd) u (by simpa using hu); exact this)
          clear hal HW3 HO
          unfold Tok.cs at HW4 HO4 HX HX1
          dsimp only
          unfold Tok.cs
          by_cases hk : t.kd = 0
          · have kb : (t.kd != 0) = false := by simpa using hk
            have HF2 : Hid (r2 = (q1, r.2)) := Lib.hid (by rw [HF.out, if_pos hk]; simp)
            clear HF hk HX HX1 HO4
            go_wp2_with fail
            go_roundw
            case rel => exact ⟨i + 1, by omega, by go_num, by rw [HSx.out, HF2.out]; exact HW4.out⟩
            case measure => simp [intOf]; omega
          · have kb : (t.kd != 0) = true := by simpa using hk
            have HF2 : Hid (r2 = (q1, r.2 ++ [t])) := Lib.hid (by rw [HF.out, if_neg hk])
            clear HF hk
            go_upto_region 11 with fail
            generalize w3.alloc (.cells #[.int .i64 t.kd, .int .u8 (t.cd : Int), .int .u8 (t.mr : Int), .slice A3 t.ps.length cc, .string t.it, .slice B3 t.dt.length dd] 66) = w4 at *
            have hal5 : Below w4.heap.size w4 (w4.alloc (.cells #[.int .i64 t.kd, .int .u8 (t.cd : Int), .int .u8 (t.mr : Int), .slice A3 t.ps.length cc, .string t.it, .slice B3 t.dt.length dd] 66)) := (Below.refl _ _).alloc (Nat.le_refl _) _
            have HW5 := Lib.hid (HW4.out.more hal5)
            have HO5 := Lib.hid (HO4.out.keep (row := none) (grown_below hal5) (fun k hk => by cases hk))
            have HX5 := Lib.hid (Blk.new w4 66 #[.int .i64 t.kd, .int .u8 (t.cd : Int), .int .u8 (t.mr : Int), .slice A3 t.ps.length cc, .string t.it, .slice B3 t.dt.length dd])
            obtain ⟨xs, ho5, hot5⟩ := HW5.out.tok
            have HOw := Lib.hid ho5; have HOt := Lib.hid hot5
            have HRd : Hid (Reads (w4.alloc (.cells #[.int .i64 t.kd, .int .u8 (t.cd : Int), .int .u8 (t.mr : Int), .slice A3 t.ps.length cc, .string t.it, .slice B3 t.dt.length dd] 66)) (w4.alloc (.cells #[.int .i64 t.kd, .int .u8 (t.cd : Int), .int .u8 (t.mr : Int), .slice A3 t.ps.length cc, .string t.it, .slice B3 t.dt.length dd] 66)).heap.size 6 (some ⟨w4.heap.size, 0, none⟩) 1 [.int .i64 t.kd, .int .u8 (t.cd : Int), .int .u8 (t.mr : Int), .slice A3 t.ps.length cc, .string t.it, .slice B3 t.dt.length dd]) := Lib.hid ⟨rfl, fun _ => ⟨_, rfl, by simp, fun j u hu => by rw [add_here, HX5.out.cell j, List.getElem?_toArray]; exact hu⟩⟩
            have HBy : Hid ((r.2.length + 1) * i0.bytes ≤ 140737488355328) := Lib.hid (Nat.le_trans (Nat.mul_le_mul (Nat.succ_le_succ hfl.out) HI.out.2.2.2) (by decide))
            have HMx : Hid (r.2.length + 1 ≤ maxLen) := Lib.hid (by have := hfl.out; unfold maxLen; omega)
            have HBs : Hid (w.heap.size ≤ (w4.alloc (.cells #[.int .i64 t.kd, .int .u8 (t.cd : Int), .int .u8 (t.mr : Int), .slice A3 t.ps.length cc, .string t.it, .slice B3 t.dt.length dd] 66)).heap.size) := Lib.hid HW5.out.gro.size
            clear hal5 ho5 hot5 HW4 HO4 HX5
            go_wp2_with (first
              | (refine wpList_load_row rfl _ _ rfl w3.heap.size rfl _ _ (0, 0) _ HX.out tkU rfl tkS6 ?_)
              | (at_builtin; refine wpList_append_any _ rfl _ _ 61 rfl w.heap.size 66 i0 _ 6 i0.bytes Tryz.underlying61 HI.out.1 HI.out.2.1 HI.out.2.2.1 rfl rfl (by decide) _ r.2.length _ rfl HOw.out _ (some ⟨w4.heap.size, 0, none⟩) 1 1 _ rfl HRd.out HX1.out HMx.out HBy.out HBs.out ?_; intro v6 w6 hown6 hg6 _))
            go_roundw
            case rel => exact ⟨i + 1, by omega, by go_num, by rw [HSx.out, HF2.out]; exact HW5.out.push HOw.out HOt.out HO5.out hown6 hg6⟩
            case measure => simp [intOf]; omega

      · obtain ⟨p, hp⟩ : ∃ p, r.1 = p := ⟨_, rfl⟩
        have HSB : Hid (r2 = ((feedC p c).1, r.2 ++ (feedC p c).2)) := Lib.hid (by rw [HSn.out]; unfold feedB hiP; rw [if_neg hhi, hp])
        have HW1 : Hid (FdW w wr g (p, r.2) u5) := Lib.hid (by have := HW.out; rw [← hp]; exact this)
        have hh : ((128 : Int) ≤ (c : Int)) = False ∨ ((128 : Int) ≤ (c : Int)) = True ∧ ((c : Int) ≤ 159) = False := by
          by_cases h1 : 128 ≤ c
          · right; exact ⟨eq_true (by omega), eq_false (by omega)⟩
          · left; exact eq_false (by omega)
        clear HW hp hhi HSn
        obtain ⟨c1, hcc⟩ : ∃ c1, c1 = c := ⟨_, rfl⟩
        have hc1 : c1 < 256 := by omega
        rw [← hcc] at HSB hc hh
        clear hcc hc256 c
        rcases hh with hh | ⟨hh, hh2⟩
        · by_cases hz : c1 = 0 ∨ c1 = 127
          · have hfc : feedC p c1 = (p, []) := by unfold feedC; rw [if_pos hz]
            have HF : Hid (r2 = (p, r.2)) := Lib.hid (by rw [HSB.out, hfc]; simp)
            clear hfc HSB
            rcases hz with h0 | h0
            · have z0 : ((c1 : Int) == 0) = true := by simp; omega
              clear h0
              go_wp2_with fail
              go_roundw
              case rel => exact ⟨i + 1, by omega, by go_num, by rw [HSx.out, HF.out]; exact HW1.out⟩
              case measure => simp [intOf]; omega
            · have z0 : ((c1 : Int) == 0) = false := by simp; omega
              have z127 : ((c1 : Int) == 127) = true := by simp; omega
              clear h0
              go_wp2_with fail
              go_roundw
              case rel => exact ⟨i + 1, by omega, by go_num, by rw [HSx.out, HF.out]; exact HW1.out⟩
              case measure => simp [intOf]; omega
          · have hfc : feedC p c1 = ((takeP p c1).1, if (takeP p c1).2.kd = 0 then [] else [(takeP p c1).2]) := by unfold feedC; rw [if_neg hz]
            have z0 : ((c1 : Int) == 0) = false := by simp; omega
            have z127 : ((c1 : Int) == 127) = false := by simp; omega
            have HTk := Lib.hid (fun W h => take_any g p c1 hc1 HW1.out.pl W h)
            have HTR := Lib.hid (R_take HW1.out.pl c1)
            have HF : Hid (r2 = ((takeP p c1).1, r.2 ++ if (takeP p c1).2.kd = 0 then [] else [(takeP p c1).2])) := Lib.hid (by rw [HSB.out, hfc])
            clear hfc HSB hz
            dsimp only at HTR HF
            generalize takeP p c1 = q at *
            go_wp2_with fail
            refine (HTk.out _ HW1.out.prs).mono ?_
            rintro e w3 ⟨v, rfl, ho, hp, hg⟩
            obtain ⟨A3, cc, B3, dd, rfl, o1, o2⟩ := ho
            have hsz : w.heap.size ≤ wr.heap.size := HW1.out.gro.size
            have HO : Hid (OTk w3 w.heap.size (.agg (q.2.cs A3 cc B3 dd)) q.2) := Lib.hid (OTk.more ⟨A3, cc, B3, dd, rfl, o1, o2⟩ hsz)
            have HW3 := Lib.hid (HW1.out.call hp hg HTR.out)
            clear o1 o2 hp hg hsz HW1 HTk HTR
            obtain ⟨q1, t⟩ := q
            dsimp only at HO HF HW3
            have hal : Below w3.heap.size w3 (w3.alloc (.cells (t.cs A3 cc B3 dd) 66)) := (Below.refl _ _).alloc (Nat.le_refl _) _
            have HW4 := Lib.hid (HW3.out.more hal)
            have HO4 := Lib.hid (HO.out.keep (row := none) (grown_below hal) (fun k hk => by cases hk))
            have HX := Lib.hid (Blk.new w3 66 (t.cs A3 cc B3 dd))
            have HX1 : Hid (∀ u ∈ (t.cs A3 cc B3 dd).toList, u.oneCell' = true) := Lib.hid (fun u hu => by have := Array.all_eq_true_iff_forall_mem.1 (tk_cs_one t A3 cc B3 dd) u (by simpa using hu); exact this)
            clear hal HW3 HO
            unfold Tok.cs at HW4 HO4 HX HX1
            dsimp only
            unfold Tok.cs
            by_cases hk : t.kd = 0
            · have kb : (t.kd != 0) = false := by simpa using hk
              have HF2 : Hid (r2 = (q1, r.2)) := Lib.hid (by rw [HF.out, if_pos hk]; simp)
              clear HF hk HX HX1 HO4
              go_wp2_with fail
              go_roundw
              case rel => exact ⟨i + 1, by omega, by go_num, by rw [HSx.out, HF2.out]; exact HW4.out⟩
              case measure => simp [intOf]; omega
            · have kb : (t.kd != 0) = true := by simpa using hk
              have HF2 : Hid (r2 = (q1, r.2 ++ [t])) := Lib.hid (by rw [HF.out, if_neg hk])
              clear HF hk
              go_upto_region 11 with fail
              generalize w3.alloc (.cells #[.int .i64 t.kd, .int .u8 (t.cd : Int), .int .u8 (t.mr : Int), .slice A3 t.ps.length cc, .string t.it, .slice B3 t.dt.length dd] 66) = w4 at *
              have hal5 : Below w4.heap.size w4 (w4.alloc (.cells #[.int .i64 t.kd, .int .u8 (t.cd : Int), .int .u8 (t.mr : Int), .slice A3 t.ps.length cc, .string t.it, .slice B3 t.dt.length dd] 66)) := (Below.refl _ _).alloc (Nat.le_refl _) _
              have HW5 := Lib.hid (HW4.out.more hal5)
              have HO5 := Lib.hid (HO4.out.keep (row := none) (grown_below hal5) (fun k hk => by cases hk))
              have HX5 := Lib.hid (Blk.new w4 66 #[.int .i64 t.kd, .int .u8 (t.cd : Int), .int .u8 (t.mr : Int), .slice A3 t.ps.length cc, .string t.it, .slice B3 t.dt.length dd])
              obtain ⟨xs, ho5, hot5⟩ := HW5.out.tok
              have HOw := Lib.hid ho5; have HOt := Lib.hid hot5
              have HRd : Hid (Reads (w4.alloc (.cells #[.int .i64 t.kd, .int .u8 (t.cd : Int), .int .u8 (t.mr : Int), .slice A3 t.ps.length cc, .string t.it, .slice B3 t.dt.length dd] 66)) (w4.alloc (.cells #[.int .i64 t.kd, .int .u8 (t.cd : Int), .int .u8 (t.mr : Int), .slice A3 t.ps.length cc, .string t.it, .slice B3 t.dt.length dd] 66)).heap.size 6 (some ⟨w4.heap.size, 0, none⟩) 1 [.int .i64 t.kd, .int .u8 (t.cd : Int), .int .u8 (t.mr : Int), .slice A3 t.ps.length cc, .string t.it, .slice B3 t.dt.length dd]) := Lib.hid ⟨rfl, fun _ => ⟨_, rfl, by simp, fun j u hu => by rw [add_here, HX5.out.cell j, List.getElem?_toArray]; exact hu⟩⟩
              have HBy : Hid ((r.2.length + 1) * i0.bytes ≤ 140737488355328) := Lib.hid (Nat.le_trans (Nat.mul_le_mul (Nat.succ_le_succ hfl.out) HI.out.2.2.2) (by decide))
              have HMx : Hid (r.2.length + 1 ≤ maxLen) := Lib.hid (by have := hfl.out; unfold maxLen; omega)
              have HBs : Hid (w.heap.size ≤ (w4.alloc (.cells #[.int .i64 t.kd, .int .u8 (t.cd : Int), .int .u8 (t.mr : Int), .slice A3 t.ps.length cc, .string t.it, .slice B3 t.dt.length dd] 66)).heap.size) := Lib.hid HW5.out.gro.size
              clear hal5 ho5 hot5 HW4 HO4 HX5
              go_wp2_with (first
                | (refine wpList_load_row rfl _ _ rfl w3.heap.size rfl _ _ (0, 0) _ HX.out tkU rfl tkS6 ?_)
                | (at_builtin; refine wpList_append_any _ rfl _ _ 61 rfl w.heap.size 66 i0 _ 6 i0.bytes Tryz.underlying61 HI.out.1 HI.out.2.1 HI.out.2.2.1 rfl rfl (by decide) _ r.2.length _ rfl HOw.out _ (some ⟨w4.heap.size, 0, none⟩) 1 1 _ rfl HRd.out HX1.out HMx.out HBy.out HBs.out ?_; intro v6 w6 hown6 hg6 _))
              go_roundw
              case rel => exact ⟨i + 1, by omega, by go_num, by rw [HSx.out, HF2.out]; exact HW5.out.push HOw.out HOt.out HO5.out hown6 hg6⟩
              case measure => simp [intOf]; omega

        · by_cases hz : c1 = 0 ∨ c1 = 127
          · have hfc : feedC p c1 = (p, []) := by unfold feedC; rw [if_pos hz]
            have HF : Hid (r2 = (p, r.2)) := Lib.hid (by rw [HSB.out, hfc]; simp)
            clear hfc HSB
            rcases hz with h0 | h0
            · have z0 : ((c1 : Int) == 0) = true := by simp; omega
              clear h0
              go_wp2_with fail
              go_roundw
              case rel => exact ⟨i + 1, by omega, by go_num, by rw [HSx.out, HF.out]; exact HW1.out⟩
              case measure => simp [intOf]; omega
            · have z0 : ((c1 : Int) == 0) = false := by simp; omega
              have z127 : ((c1 : Int) == 127) = true := by simp; omega
              clear h0
              go_wp2_with fail
              go_roundw
              case rel => exact ⟨i + 1, by omega, by go_num, by rw [HSx.out, HF.out]; exact HW1.out⟩
              case measure => simp [intOf]; omega
          · have hfc : feedC p c1 = ((takeP p c1).1, if (takeP p c1).2.kd = 0 then [] else [(takeP p c1).2]) := by unfold feedC; rw [if_neg hz]
            have z0 : ((c1 : Int) == 0) = false := by simp; omega
            have z127 : ((c1 : Int) == 127) = false := by simp; omega
            have HTk := Lib.hid (fun W h => take_any g p c1 hc1 HW1.out.pl W h)
            have HTR := Lib.hid (R_take HW1.out.pl c1)
            have HF : Hid (r2 = ((takeP p c1).1, r.2 ++ if (takeP p c1).2.kd = 0 then [] else [(takeP p c1).2])) := Lib.hid (by rw [HSB.out, hfc])
            clear hfc HSB hz
            dsimp only at HTR HF
            generalize takeP p c1 = q at *
            go_wp2_with fail
            refine (HTk.out _ HW1.out.prs).mono ?_
            rintro e w3 ⟨v, rfl, ho, hp, hg⟩
            obtain ⟨A3, cc, B3, dd, rfl, o1, o2⟩ := ho
            have hsz : w.heap.size ≤ wr.heap.size := HW1.out.gro.size
            have HO : Hid (OTk w3 w.heap.size (.agg (q.2.cs A3 cc B3 dd)) q.2) := Lib.hid (OTk.more ⟨A3, cc, B3, dd, rfl, o1, o2⟩ hsz)
            have HW3 := Lib.hid (HW1.out.call hp hg HTR.out)
            clear o1 o2 hp hg hsz HW1 HTk HTR
            obtain ⟨q1, t⟩ := q
            dsimp only at HO HF HW3
            have hal : Below w3.heap.size w3 (w3.alloc (.cells (t.cs A3 cc B3 dd) 66)) := (Below.refl _ _).alloc (Nat.le_refl _) _
            have HW4 := Lib.hid (HW3.out.more hal)
            have HO4 := Lib.hid (HO.out.keep (row := none) (grown_below hal) (fun k hk => by cases hk))
            have HX := Lib.hid (Blk.new w3 66 (t.cs A3 cc B3 dd))
            have HX1 : Hid (∀ u ∈ (t.cs A3 cc B3 dd).toList, u.oneCell' = true) := Lib.hid (fun u hu => by have := Array.all_eq_true_iff_forall_mem.1 (tk_cs_one t A3 cc B3 dd) u (by simpa using hu); exact this)
            clear hal HW3 HO
            unfold Tok.cs at HW4 HO4 HX HX1
            dsimp only
            unfold Tok.cs
            by_cases hk : t.kd = 0
            · have kb : (t.kd != 0) = false := by simpa using hk
              have HF2 : Hid (r2 = (q1, r.2)) := Lib.hid (by rw [HF.out, if_pos hk]; simp)
              clear HF hk HX HX1 HO4
              go_wp2_with fail
              go_roundw
              case rel => exact ⟨i + 1, by omega, by go_num, by rw [HSx.out, HF2.out]; exact HW4.out⟩
              case measure => simp [intOf]; omega
            · have kb : (t.kd != 0) = true := by simpa using hk
              have HF2 : Hid (r2 = (q1, r.2 ++ [t])) := Lib.hid (by rw [HF.out, if_neg hk])
              clear HF hk
              go_upto_region 11 with fail
              generalize w3.alloc (.cells #[.int .i64 t.kd, .int .u8 (t.cd : Int), .int .u8 (t.mr : Int), .slice A3 t.ps.length cc, .string t.it, .slice B3 t.dt.length dd] 66) = w4 at *
              have hal5 : Below w4.heap.size w4 (w4.alloc (.cells #[.int .i64 t.kd, .int .u8 (t.cd : Int), .int .u8 (t.mr : Int), .slice A3 t.ps.length cc, .string t.it, .slice B3 t.dt.length dd] 66)) := (Below.refl _ _).alloc (Nat.le_refl _) _
              have HW5 := Lib.hid (HW4.out.more hal5)
              have HO5 := Lib.hid (HO4.out.keep (row := none) (grown_below hal5) (fun k hk => by cases hk))
              have HX5 := Lib.hid (Blk.new w4 66 #[.int .i64 t.kd, .int .u8 (t.cd : Int), .int .u8 (t.mr : Int), .slice A3 t.ps.length cc, .string t.it, .slice B3 t.dt.length dd])
              obtain ⟨xs, ho5, hot5⟩ := HW5.out.tok
              have HOw := Lib.hid ho5; have HOt := Lib.hid hot5
              have HRd : Hid (Reads (w4.alloc (.cells #[.int .i64 t.kd, .int .u8 (t.cd : Int), .int .u8 (t.mr : Int), .slice A3 t.ps.length cc, .string t.it, .slice B3 t.dt.length dd] 66)) (w4.alloc (.cells #[.int .i64 t.kd, .int .u8 (t.cd : Int), .int .u8 (t.mr : Int), .slice A3 t.ps.length cc, .string t.it, .slice B3 t.dt.length dd] 66)).heap.size 6 (some ⟨w4.heap.size, 0, none⟩) 1 [.int .i64 t.kd, .int .u8 (t.cd : Int), .int .u8 (t.mr : Int), .slice A3 t.ps.length cc, .string t.it, .slice B3 t.dt.length dd]) := Lib.hid ⟨rfl, fun _ => ⟨_, rfl, by simp, fun j u hu => by rw [add_here, HX5.out.cell j, List.getElem?_toArray]; exact hu⟩⟩
              have HBy : Hid ((r.2.length + 1) * i0.bytes ≤ 140737488355328) := Lib.hid (Nat.le_trans (Nat.mul_le_mul (Nat.succ_le_succ hfl.out) HI.out.2.2.2) (by decide))
              have HMx : Hid (r.2.length + 1 ≤ maxLen) := Lib.hid (by have := hfl.out; unfold maxLen; omega)
              have HBs : Hid (w.heap.size ≤ (w4.alloc (.cells #[.int .i64 t.kd, .int .u8 (t.cd : Int), .int .u8 (t.mr : Int), .slice A3 t.ps.length cc, .string t.it, .slice B3 t.dt.length dd] 66)).heap.size) := Lib.hid HW5.out.gro.size
              clear hal5 ho5 hot5 HW4 HO4 HX5
              go_wp2_with (first
                | (refine wpList_load_row rfl _ _ rfl w3.heap.size rfl _ _ (0, 0) _ HX.out tkU rfl tkS6 ?_)
                | (at_builtin; refine wpList_append_any _ rfl _ _ 61 rfl w.heap.size 66 i0 _ 6 i0.bytes Tryz.underlying61 HI.out.1 HI.out.2.1 HI.out.2.2.1 rfl rfl (by decide) _ r.2.length _ rfl HOw.out _ (some ⟨w4.heap.size, 0, none⟩) 1 1 _ rfl HRd.out HX1.out HMx.out HBy.out HBs.out ?_; intro v6 w6 hown6 hg6 _))
              go_roundw
              case rel => exact ⟨i + 1, by omega, by go_num, by rw [HSx.out, HF2.out]; exact HW5.out.push HOw.out HOt.out HO5.out hown6 hg6⟩
              case measure => simp [intOf]; omega

    · obtain rfl : i = ns.length := by omega
      have m1 : ((ns.length : Int) < (ns.length : Int)) = False := eq_false (by omega)
      have HE := Lib.hid (show FdW w wr g (feedL s ns) u5 from by have := HW.out; rw [List.take_length] at this; exact this)
      clear HW
      go_wp2_with fail
      go_ret
      exact ⟨_, rfl, HE.out⟩
end Go.Proofs.YtfnamfkjbkhgeaaGreatDoor

namespace Go.Proofs.YtfnamfkjbkhgeaaGreatDoor

open Go Go.RowKit

theorem info_ps : ∃ i, Tryz.prog.info? 121 = some i ∧ i.zero = some (.agg ps0.cells.toArray) ∧ i.size = 4136 := by
  have h : (Tryz.prog.info? 121).map (fun i => (i.zero, i.size)) = some (some (.agg ps0.cells.toArray), 4136) := by kernel_rfl
  cases hi : Tryz.prog.info? 121 with
  | none => rw [hi] at h; cases h
  | some i =>
    rw [hi] at h
    simp only [Option.map_some, Option.some.injEq, Prod.mk.injEq] at h
    exact ⟨i, rfl, h.1, h.2⟩
theorem run_alloc_ps (ρ : Operand → Value) (o : Oper) (ho : o.op = .alloc 121) (w : World) : (execOp ρ o).run Tryz.prog w = .ok (.value (.pointer (some ⟨w.heap.size, 0, none⟩))) (w.alloc (.cells ps0.cells.toArray 121)) := by
  obtain ⟨i, hi, hz, hs⟩ := info_ps
  generalize ps0.cells.toArray = C at *
  simp [execOp, ho, Instr.alloc, zeroValue, typeInfo, hi, hz, newVar, newRow, Value.cells]
theorem wpList_alloc_ps {ops : Array Oper} {rest : List Oper} {o : Oper} {a : Act} {w : World} {Q : Exit → Act → World → Prop} (hg : o.guard = none) (ho : o.op = .alloc 121)
    (h : wpList Tryz.prog ops Q rest (a.put o.dst (.pointer (some ⟨w.heap.size, 0, none⟩))) (w.alloc (.cells ps0.cells.toArray 121))) : wpList Tryz.prog ops Q (o :: rest) a w :=
  Great.wpList_runTo hg o.dst rfl _ _ (run_alloc_ps a.eval o ho w) h
theorem ps_new (w : World) : PsB (w.alloc (.cells ps0.cells.toArray 121)) w.heap.size ps0 := ⟨Blk.new w _ _, ps0_ok⟩
/-! Lists of tokens, read. -/
def RTl (w : World) : List (Array Value) → List Tok → Prop
  | [], [] => True
  | x :: xs, t :: ts => (∃ A c B d, x = t.cs A c B d ∧ RInts w A t.ps ∧ RByt w B t.dt) ∧ RTl w xs ts
  | _, _ => False
theorem RTl.next {w w' : World} (hb : Below w.heap.size w w') : ∀ {xs : List (Array Value)} {ts : List Tok}, RTl w xs ts → RTl w' xs ts
  | [], [], _ => trivial
  | _ :: _, _ :: _, h => by
    obtain ⟨⟨A, c, B, d, e, h1, h2⟩, h3⟩ := h
    exact ⟨⟨A, c, B, d, e, h1.next hb, h2.next hb⟩, RTl.next hb h3⟩
theorem RTl.of_own {w : World} {base : Nat} : ∀ {xs : List (Array Value)} {ts : List Tok}, OTl w base xs ts → RTl w xs ts
  | [], [], _ => trivial
  | _ :: _, _ :: _, h => by
    obtain ⟨⟨A, c, B, d, e, h1, h2⟩, h3⟩ := h
    injection e with e
    exact ⟨⟨A, c, B, d, e, OInts.reads h1, OByt.reads h2⟩, RTl.of_own h3⟩
def RTs (w : World) (A : Option Addr) (ts : List Tok) : Prop := ∃ xs : List (Array Value), Reads w w.heap.size 6 A ts.length (xs.flatMap Array.toList) ∧ RTl w xs ts
theorem RTs.next {w w' : World} {A : Option Addr} {ts : List Tok} (h : RTs w A ts) (hb : Below w.heap.size w w') : RTs w' A ts := by
  obtain ⟨xs, h1, h2⟩ := h
  exact ⟨xs, (Reads.below h1 hb).more hb.size, h2.next hb⟩
theorem OTks.reads {w : World} {base : Nat} {v : Value} {ts : List Tok} (h : OTks w base v ts) : ∃ A c, v = .slice A ts.length c ∧ RTs w A ts := by
  obtain ⟨xs, h1, h2⟩ := h
  rcases h1.2 with ⟨rfl, hn⟩ | ⟨g, cap, cur, rfl, r⟩
  · have h0 : ts = [] := List.eq_nil_of_length_eq_zero hn
    subst h0
    refine ⟨none, 0, rfl, xs, ?_, RTl.of_own h2⟩
    have := OTl.len h2
    obtain rfl : xs = [] := List.eq_nil_of_length_eq_zero this
    exact Reads.none_
  · exact ⟨_, _, rfl, xs, Reads.of_own (show w.ownsRow base 66 6 (.slice (some ⟨g, 0, none⟩) ts.length cap) ts.length _ from h1), RTl.of_own h2⟩
theorem rt_cells : ∀ {w : World} {xs : List (Array Value)} {ts : List Tok} (_ : RTl w xs ts) (k : Nat) (hk : k < ts.length), ∃ A c B d, RInts w A ts[k].ps ∧ RByt w B ts[k].dt ∧ ∀ j u, (ts[k].cs A c B d)[j]? = some u → (xs.flatMap Array.toList)[k * 6 + j]? = some u
  | _, [], [], _, k, hk => by simp at hk
  | w, x :: xs, t :: ts, h, 0, _ => by
    obtain ⟨⟨A, c, B, d, e, h1, h2⟩, h3⟩ := h
    refine ⟨A, c, B, d, h1, h2, fun j u hu => ?_⟩
    subst e
    have hj : j < 6 := by
      have := (Array.getElem?_eq_some_iff.1 hu).1
      simpa [Tok.cs] using this
    rw [List.flatMap_cons, Nat.zero_mul, Nat.zero_add, List.getElem?_append_left (by simpa [Tok.cs] using hj)]
    simpa using hu
  | w, x :: xs, t :: ts, h, k + 1, hk => by
    obtain ⟨⟨A, c, B, d, e, h1, h2⟩, h3⟩ := h
    obtain ⟨A', c', B', d', g1, g2, g3⟩ := rt_cells h3 k (by simpa using hk)
    refine ⟨A', c', B', d', g1, g2, fun j u hu => ?_⟩
    rw [List.flatMap_cons, List.getElem?_append_right (by subst e; simp [Tok.cs]; omega)]
    have hx : x.toList.length = 6 := by subst e; simp [Tok.cs]
    rw [hx, show (k + 1) * 6 + j - 6 = k * 6 + j from by omega]
    exact g3 j u hu
/-- A token of a list that is read. -/
theorem RTs.at_ {w : World} {A : Option Addr} {ts : List Tok} (h : RTs w A ts) {k : Nat} (hk : k < ts.length) : ∃ ad P pc D dc, A = some ad ∧ RInts w P ts[k].ps ∧ RByt w D ts[k].dt ∧
    w.cell? (ad.add (k * 6)) = some (.int .i64 ts[k].kd) ∧ w.cell? ⟨(ad.add (k * 6)).block, (ad.add (k * 6)).off + 1, none⟩ = some (.int .u8 (ts[k].cd : Int)) ∧ w.cell? ⟨(ad.add (k * 6)).block, (ad.add (k * 6)).off + 2, none⟩ = some (.int .u8 (ts[k].mr : Int)) ∧
    w.cell? ⟨(ad.add (k * 6)).block, (ad.add (k * 6)).off + 3, none⟩ = some (.slice P ts[k].ps.length pc) ∧ w.cell? ⟨(ad.add (k * 6)).block, (ad.add (k * 6)).off + 4, none⟩ = some (.string ts[k].it) ∧ w.cell? ⟨(ad.add (k * 6)).block, (ad.add (k * 6)).off + 5, none⟩ = some (.slice D ts[k].dt.length dc) := by
  obtain ⟨xs, h1, h2⟩ := h
  obtain ⟨ad, rfl, hb, hc⟩ := h1.2 (by omega)
  obtain ⟨P, pc, D, dc, g1, g2, g3⟩ := rt_cells h2 k hk
  have a1 : (⟨(ad.add (k * 6)).block, (ad.add (k * 6)).off + 1, none⟩ : Addr) = ad.add (k * 6 + 1) := (show _ = (ad.add (k * 6)).add 1 from rfl).trans (add_of_add ad _ _)
  have a2 : (⟨(ad.add (k * 6)).block, (ad.add (k * 6)).off + 2, none⟩ : Addr) = ad.add (k * 6 + 2) := (show _ = (ad.add (k * 6)).add 2 from rfl).trans (add_of_add ad _ _)
  have a3 : (⟨(ad.add (k * 6)).block, (ad.add (k * 6)).off + 3, none⟩ : Addr) = ad.add (k * 6 + 3) := (show _ = (ad.add (k * 6)).add 3 from rfl).trans (add_of_add ad _ _)
  have a4 : (⟨(ad.add (k * 6)).block, (ad.add (k * 6)).off + 4, none⟩ : Addr) = ad.add (k * 6 + 4) := (show _ = (ad.add (k * 6)).add 4 from rfl).trans (add_of_add ad _ _)
  have a5 : (⟨(ad.add (k * 6)).block, (ad.add (k * 6)).off + 5, none⟩ : Addr) = ad.add (k * 6 + 5) := (show _ = (ad.add (k * 6)).add 5 from rfl).trans (add_of_add ad _ _)
  refine ⟨ad, P, pc, D, dc, rfl, g1, g2, ?_⟩
  rw [a1, a2, a3, a4, a5]
  exact ⟨hc _ _ (g3 0 _ rfl), hc _ _ (g3 1 _ rfl), hc _ _ (g3 2 _ rfl), hc _ _ (g3 3 _ rfl), hc _ _ (g3 4 _ rfl), hc _ _ (g3 5 _ rfl)⟩
theorem far_new {w : World} {A : Option Addr} {ns : List Nat} (hr : RByt w A ns) {g : Nat} (hg : w.heap.size ≤ g) : ∀ ad, 0 < ns.length → A = some ad → ad.block ≠ g := fun ad h0 e => by
  obtain ⟨ad', e', hlt, _⟩ := hr.2 h0
  rw [e] at e'; injection e' with e'; subst e'; omega
theorem OTl.more {w : World} {b b' : Nat} (hb : b' ≤ b) : ∀ {xs : List (Array Value)} {ts : List Tok}, OTl w b xs ts → OTl w b' xs ts
  | [], [], _ => trivial
  | _ :: _, _ :: _, h => ⟨h.1.more hb, OTl.more hb h.2⟩
theorem OTks.more {w : World} {b b' : Nat} {v : Value} {ts : List Tok} (h : OTks w b v ts) (hb : b' ≤ b) : OTks w b' v ts := by
  obtain ⟨xs, h1, h2⟩ := h
  exact ⟨xs, own_base h1 hb, h2.more hb⟩
theorem below_of_grown {B : Nat} {w w1 w2 : World} {g : Nat} (h : Below B w w1) (hg : w1.grownBy w2 (some g)) (hB : B ≤ g) (hs : B ≤ w1.heap.size := by omega) : Below B w w2 :=
  ⟨hg.os.trans h.os, hg.tape.trans h.tape, hg.output.trans h.output, Nat.le_trans h.size hg.size, fun k hk => (hg.block k (Nat.lt_of_lt_of_le hk hs) (by simp; omega)).trans (h.block k hk)⟩
set_option maxRecDepth 100000 in
set_option maxHeartbeats 4000000 in
theorem split_any (A : Option Addr) (cap : Nat) (ns : List Nat) (hn : ∀ n ∈ ns, n < 256) (hl : ns.length ≤ 1000000) (w : World) (hr : RByt w A ns) :
    Calls Tryz.prog 18 #[.slice A ns.length cap] w fun e w' => ∃ v, e = .returned v ∧ OTks w' w.heap.size v (feedL ps0 ns).2 ∧ Below w.heap.size w w' := by
  have hb : Below w.heap.size w (w.alloc (.cells ps0.cells.toArray 121)) := (Below.refl _ w).alloc (Nat.le_refl _) _
  have HB := Lib.hid hb
  have HF := Lib.hid (feed_any w.heap.size ps0 R0 A cap ns hn (by omega) (far_new hr (Nat.le_refl _)) _ (ps_new w) (hr.next hb))
  clear hb hr
  go_enter Tryz.func18, Tryz.ntmps18
  go_upto_region 1 with fail
  go_wp2_with (refine wpList_alloc_ps rfl rfl ?_)
  generalize w.alloc (.cells ps0.cells.toArray 121) = w1 at *
  refine HF.out.mono ?_
  rintro e w2 ⟨v, rfl, hw⟩
  have HW := Lib.hid hw
  clear hw HF
  go_wp2_with fail
  go_ret
  exact ⟨_, rfl, HW.out.tok.more HB.out.size, below_of_grown HB.out HW.out.gro (Nat.le_refl _) HB.out.size⟩

end Go.Proofs.YtfnamfkjbkhgeaaGreatDoor

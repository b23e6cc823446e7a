/-
  A parser's steps by a table, within a sequence.
-/
import Derived.Test.YtigaaidacndeiaaGreatDoorPrsK
namespace Go.Proofs.YtigaaidacndeiaaGreatDoor

open Go Go.RowKit

theorem TkQ.open6 {W w' : World} {g : Nat} {r : Ps × Tok} {e : Ending} (h : TkQ W g r e w') {w : World} {s : Ps} (hk : TkW w W g s zTok) : ∃ (t : Tok) (A : Option Addr) (c : Nat) (B : Option Addr) (d : Nat), e = .returned (.agg (t.cs A c B d)) ∧ r.2 = t ∧ TkA w w' g r (t.cs A c B d) := by
  obtain ⟨v, rfl, ho, hp, hg⟩ := h
  obtain ⟨A, c, B, d, rfl, h1, h2⟩ := ho
  exact ⟨_, A, c, B, d, rfl, rfl, hk.call hp hg, OTk.more ⟨A, c, B, d, rfl, h1, h2⟩ hk.lt, tk_cs_one _ _ _ _ _, rfl⟩
theorem repl_grown {w w' : World} {b : Nat} {T : TypeId} {cs : Array Value} (h : Repl w w' b T cs) : w.grownBy w' (some b) := ⟨h.os, h.tape, h.output, Nat.le_of_eq h.size.symm, fun k _ hn => h.far k (fun e => hn (by rw [e]))⟩
theorem TkA.fin6 {w W W' : World} {g : Nat} {r : Ps × Tok} {X : Array Value} (h : TkA w W g r X) (hr : Repl W W' w.heap.size 34 X) : TkQ w g r (.returned (.agg X)) W' := by
  have hg : W.grownBy W' (some w.heap.size) := repl_grown hr
  exact ⟨_, rfl, (h.tok.keep hg (fun k hk => by cases hk; omega)).more (by omega), ⟨(hg.block g h.tk.prs.lt (by have := h.tk.gl; simp; omega)).trans h.tk.prs.blk, h.tk.prs.ok⟩, ⟨hg.os.trans h.tk.gro.os, hg.tape.trans h.tk.gro.tape, hg.output.trans h.tk.gro.output, Nat.le_trans h.tk.gro.size hg.size, fun k hk hn => (hg.block k (Nat.lt_of_lt_of_le hk h.tk.gro.size) (by simp; omega)).trans (h.tk.gro.block k hk hn)⟩⟩
theorem TkA.ret6 {w W W' : World} {g : Nat} {r : Ps × Tok} {X : Array Value} (h : TkA w W g r X) (hr : Repl W W' w.heap.size 34 X) (fn : Func) (p : Tmp) (hrs : fn.results = #[.cell p 34]) (tmps : Array Value) (hp : tmps.getD p undef = .pointer (some ⟨w.heap.size, 0, none⟩)) : (results fn tmps).run Tryz.prog W' = .ok (.agg X) W' :=
  results_cell_row hrs tmps _ w.heap.size 34 X (0, 0) _ hp hr.here tkU rfl (by rw [h.six]; exact tkS6)
theorem andn (c : Nat) (hc : c < 256) : bits .andNot .u8 (c : Int) 128 = ((c % 128 : Nat) : Int) := by
  have : ∀ k : Fin 256, bits .andNot .u8 ((k.val : Nat) : Int) 128 = ((k.val % 128 : Nat) : Int) := by decide +kernel
  exact this ⟨c, hc⟩
theorem ix0 (W : World) : (Instr.index 94 (.agg stps) (.int .i64 0)).run Tryz.prog W = .ok (.func (.func 74) #[] #[]) W := by kernel_rfl
theorem ix1 (W : World) : (Instr.index 94 (.agg stps) (.int .i64 1)).run Tryz.prog W = .ok (.func (.func 75) #[] #[]) W := by kernel_rfl
theorem ix2 (W : World) : (Instr.index 94 (.agg stps) (.int .i64 2)).run Tryz.prog W = .ok (.func (.func 76) #[] #[]) W := by kernel_rfl
theorem ix3 (W : World) : (Instr.index 94 (.agg stps) (.int .i64 3)).run Tryz.prog W = .ok (.func (.func 77) #[] #[]) W := by kernel_rfl
theorem ix4 (W : World) : (Instr.index 94 (.agg stps) (.int .i64 4)).run Tryz.prog W = .ok (.func (.func 78) #[] #[]) W := by kernel_rfl
theorem ix5 (W : World) : (Instr.index 94 (.agg stps) (.int .i64 5)).run Tryz.prog W = .ok (.func (.func 79) #[] #[]) W := by kernel_rfl
theorem ix6 (W : World) : (Instr.index 94 (.agg stps) (.int .i64 6)).run Tryz.prog W = .ok (.func (.func 80) #[] #[]) W := by kernel_rfl
theorem ix7 (W : World) : (Instr.index 94 (.agg stps) (.int .i64 7)).run Tryz.prog W = .ok (.func (.func 81) #[] #[]) W := by kernel_rfl
set_option maxRecDepth 100000 in
set_option maxHeartbeats 8000000 in
theorem within1_any (g : Nat) (s : Ps) (c : Nat) (hc : c < 256) (h32 : 32 ≤ c) (h255 : c ≠ 255) (hp : s.pl = 1) (w : World) (h : PsB w g s) :
    Calls Tryz.prog 52 #[.pointer (some ⟨g, 0, none⟩), .int .u8 (c : Int)] w (TkQ w g (takeEscapedP s (c % 128))) := by
  have HT := Lib.hid (TkW.start h)
  have HS := Lib.hid (fun W (h : PsB W g s) => takeEscaped_any g s (c % 128) W h)
  have n27 : ((c : Int) == 27) = false := by simp; omega
  have l32 : ((c : Int) < 32) = False := eq_false (by omega)
  have n255 : ((c : Int) != 255) = true := by simp; omega
  have hix := ix1
  have hbt := andn c hc
  clear h hc h32 h255
  generalize c % 128 = d at *
  unfold zTok at HT
  go_enter Tryz.func52, Tryz.ntmps52
  go_upto_region 6 with fail
  generalize w.alloc (.cells #[.int .i64 0, .int .u8 0, .int .u8 0, .slice none 0 0, .string ⟨#[]⟩, .slice none 0 0] 34) = w1 at *
  have q0 := HT.out.prs.at_ 0 _ rfl
  rw [hp] at q0
  have HQ := Lib.hid (fun W (hb : Below w1.heap.size w1 W) => (HT.out.prs.next hb).at_ 0 _ rfl)
  rw [hp] at HQ
  go_region_with (first
    | (go_at_call 51; refine (steps_any _).mono ?_; rintro e w2 ⟨rfl, hb⟩; have hb1 : Below w1.heap.size w1 w2 := ((Below.refl _ w1).drew).trans hb; have q1 := HQ.out w2 hb1)
    | (go_at_call 75; refine (HS.out _ (HT.out.prs.next (‹Below w1.heap.size w1 _›))).mono ?_; intro e w3 hq; obtain ⟨t, A, cc, B, dd, rfl, ht, ha⟩ := hq.open6 (HT.out.more (‹Below w1.heap.size w1 _›)); have HA := Lib.hid ha; obtain ⟨z0, z1, z2, z3, z4, z5⟩ := six ha.tk.box; obtain ⟨f0, f1, f2, f3, f4, f5⟩ := six_fr ha.tk.box; unfold Tok.cs; clear ha hq ht))
  all_goals
    have hrp := repl6 HA.out.tk.box (.int .i64 t.kd) (.int .u8 (t.cd : Int)) (.int .u8 (t.mr : Int)) (.slice A t.ps.length cc) (.string t.it) (.slice B t.dt.length dd)
    go_wp2_with fail
    (try simp only [Exit.inBlock, Exit.then])
    exact bodyPost_ret (HA.out.ret6 hrp _ _ rfl _ rfl) rfl (HA.out.fin6 hrp)
set_option maxRecDepth 100000 in
set_option maxHeartbeats 8000000 in
theorem within2_any (g : Nat) (s : Ps) (c : Nat) (hc : c < 256) (h32 : 32 ≤ c) (h255 : c ≠ 255) (hp : s.pl = 2) (w : World) (h : PsB w g s) :
    Calls Tryz.prog 52 #[.pointer (some ⟨g, 0, none⟩), .int .u8 (c : Int)] w (TkQ w g (takeEscIntersP s (c % 128))) := by
  have HT := Lib.hid (TkW.start h)
  have HS := Lib.hid (fun W (h : PsB W g s) => takeEscInters_any g s (c % 128) W h)
  have n27 : ((c : Int) == 27) = false := by simp; omega
  have l32 : ((c : Int) < 32) = False := eq_false (by omega)
  have n255 : ((c : Int) != 255) = true := by simp; omega
  have hix := ix2
  have hbt := andn c hc
  clear h hc h32 h255
  generalize c % 128 = d at *
  unfold zTok at HT
  go_enter Tryz.func52, Tryz.ntmps52
  go_upto_region 6 with fail
  generalize w.alloc (.cells #[.int .i64 0, .int .u8 0, .int .u8 0, .slice none 0 0, .string ⟨#[]⟩, .slice none 0 0] 34) = w1 at *
  have q0 := HT.out.prs.at_ 0 _ rfl
  rw [hp] at q0
  have HQ := Lib.hid (fun W (hb : Below w1.heap.size w1 W) => (HT.out.prs.next hb).at_ 0 _ rfl)
  rw [hp] at HQ
  go_region_with (first
    | (go_at_call 51; refine (steps_any _).mono ?_; rintro e w2 ⟨rfl, hb⟩; have hb1 : Below w1.heap.size w1 w2 := ((Below.refl _ w1).drew).trans hb; have q1 := HQ.out w2 hb1)
    | (go_at_call 76; refine (HS.out _ (HT.out.prs.next (‹Below w1.heap.size w1 _›))).mono ?_; intro e w3 hq; obtain ⟨t, A, cc, B, dd, rfl, ht, ha⟩ := hq.open6 (HT.out.more (‹Below w1.heap.size w1 _›)); have HA := Lib.hid ha; obtain ⟨z0, z1, z2, z3, z4, z5⟩ := six ha.tk.box; obtain ⟨f0, f1, f2, f3, f4, f5⟩ := six_fr ha.tk.box; unfold Tok.cs; clear ha hq ht))
  all_goals
    have hrp := repl6 HA.out.tk.box (.int .i64 t.kd) (.int .u8 (t.cd : Int)) (.int .u8 (t.mr : Int)) (.slice A t.ps.length cc) (.string t.it) (.slice B t.dt.length dd)
    go_wp2_with fail
    (try simp only [Exit.inBlock, Exit.then])
    exact bodyPost_ret (HA.out.ret6 hrp _ _ rfl _ rfl) rfl (HA.out.fin6 hrp)
set_option maxRecDepth 100000 in
set_option maxHeartbeats 8000000 in
theorem within3_any (g : Nat) (s : Ps) (c : Nat) (hc : c < 256) (h32 : 32 ≤ c) (h255 : c ≠ 255) (hp : s.pl = 3) (w : World) (h : PsB w g s) :
    Calls Tryz.prog 52 #[.pointer (some ⟨g, 0, none⟩), .int .u8 (c : Int)] w (TkQ w g (takeFirstP s (c % 128))) := by
  have HT := Lib.hid (TkW.start h)
  have HS := Lib.hid (fun W (h : PsB W g s) => takeFirst_any g s (c % 128) (by omega) W h)
  have n27 : ((c : Int) == 27) = false := by simp; omega
  have l32 : ((c : Int) < 32) = False := eq_false (by omega)
  have n255 : ((c : Int) != 255) = true := by simp; omega
  have hix := ix3
  have hbt := andn c hc
  clear h hc h32 h255
  generalize c % 128 = d at *
  unfold zTok at HT
  go_enter Tryz.func52, Tryz.ntmps52
  go_upto_region 6 with fail
  generalize w.alloc (.cells #[.int .i64 0, .int .u8 0, .int .u8 0, .slice none 0 0, .string ⟨#[]⟩, .slice none 0 0] 34) = w1 at *
  have q0 := HT.out.prs.at_ 0 _ rfl
  rw [hp] at q0
  have HQ := Lib.hid (fun W (hb : Below w1.heap.size w1 W) => (HT.out.prs.next hb).at_ 0 _ rfl)
  rw [hp] at HQ
  go_region_with (first
    | (go_at_call 51; refine (steps_any _).mono ?_; rintro e w2 ⟨rfl, hb⟩; have hb1 : Below w1.heap.size w1 w2 := ((Below.refl _ w1).drew).trans hb; have q1 := HQ.out w2 hb1)
    | (go_at_call 77; refine (HS.out _ (HT.out.prs.next (‹Below w1.heap.size w1 _›))).mono ?_; intro e w3 hq; obtain ⟨t, A, cc, B, dd, rfl, ht, ha⟩ := hq.open6 (HT.out.more (‹Below w1.heap.size w1 _›)); have HA := Lib.hid ha; obtain ⟨z0, z1, z2, z3, z4, z5⟩ := six ha.tk.box; obtain ⟨f0, f1, f2, f3, f4, f5⟩ := six_fr ha.tk.box; unfold Tok.cs; clear ha hq ht))
  all_goals
    have hrp := repl6 HA.out.tk.box (.int .i64 t.kd) (.int .u8 (t.cd : Int)) (.int .u8 (t.mr : Int)) (.slice A t.ps.length cc) (.string t.it) (.slice B t.dt.length dd)
    go_wp2_with fail
    (try simp only [Exit.inBlock, Exit.then])
    exact bodyPost_ret (HA.out.ret6 hrp _ _ rfl _ rfl) rfl (HA.out.fin6 hrp)
set_option maxRecDepth 100000 in
set_option maxHeartbeats 8000000 in
theorem within4_any (g : Nat) (s : Ps) (c : Nat) (hc : c < 256) (h32 : 32 ≤ c) (h255 : c ≠ 255) (hp : s.pl = 4) (w : World) (h : PsB w g s) :
    Calls Tryz.prog 52 #[.pointer (some ⟨g, 0, none⟩), .int .u8 (c : Int)] w (TkQ w g (takeNumbersP s (c % 128))) := by
  have HT := Lib.hid (TkW.start h)
  have HS := Lib.hid (fun W (h : PsB W g s) => takeNumbers_any g s (c % 128) (by omega) W h)
  have n27 : ((c : Int) == 27) = false := by simp; omega
  have l32 : ((c : Int) < 32) = False := eq_false (by omega)
  have n255 : ((c : Int) != 255) = true := by simp; omega
  have hix := ix4
  have hbt := andn c hc
  clear h hc h32 h255
  generalize c % 128 = d at *
  unfold zTok at HT
  go_enter Tryz.func52, Tryz.ntmps52
  go_upto_region 6 with fail
  generalize w.alloc (.cells #[.int .i64 0, .int .u8 0, .int .u8 0, .slice none 0 0, .string ⟨#[]⟩, .slice none 0 0] 34) = w1 at *
  have q0 := HT.out.prs.at_ 0 _ rfl
  rw [hp] at q0
  have HQ := Lib.hid (fun W (hb : Below w1.heap.size w1 W) => (HT.out.prs.next hb).at_ 0 _ rfl)
  rw [hp] at HQ
  go_region_with (first
    | (go_at_call 51; refine (steps_any _).mono ?_; rintro e w2 ⟨rfl, hb⟩; have hb1 : Below w1.heap.size w1 w2 := ((Below.refl _ w1).drew).trans hb; have q1 := HQ.out w2 hb1)
    | (go_at_call 78; refine (HS.out _ (HT.out.prs.next (‹Below w1.heap.size w1 _›))).mono ?_; intro e w3 hq; obtain ⟨t, A, cc, B, dd, rfl, ht, ha⟩ := hq.open6 (HT.out.more (‹Below w1.heap.size w1 _›)); have HA := Lib.hid ha; obtain ⟨z0, z1, z2, z3, z4, z5⟩ := six ha.tk.box; obtain ⟨f0, f1, f2, f3, f4, f5⟩ := six_fr ha.tk.box; unfold Tok.cs; clear ha hq ht))
  all_goals
    have hrp := repl6 HA.out.tk.box (.int .i64 t.kd) (.int .u8 (t.cd : Int)) (.int .u8 (t.mr : Int)) (.slice A t.ps.length cc) (.string t.it) (.slice B t.dt.length dd)
    go_wp2_with fail
    (try simp only [Exit.inBlock, Exit.then])
    exact bodyPost_ret (HA.out.ret6 hrp _ _ rfl _ rfl) rfl (HA.out.fin6 hrp)
set_option maxRecDepth 100000 in
set_option maxHeartbeats 8000000 in
theorem within5_any (g : Nat) (s : Ps) (c : Nat) (hc : c < 256) (h32 : 32 ≤ c) (h255 : c ≠ 255) (hp : s.pl = 5) (w : World) (h : PsB w g s) :
    Calls Tryz.prog 52 #[.pointer (some ⟨g, 0, none⟩), .int .u8 (c : Int)] w (TkQ w g (takeIntersP s (c % 128))) := by
  have HT := Lib.hid (TkW.start h)
  have HS := Lib.hid (fun W (h : PsB W g s) => takeInters_any g s (c % 128) W h)
  have n27 : ((c : Int) == 27) = false := by simp; omega
  have l32 : ((c : Int) < 32) = False := eq_false (by omega)
  have n255 : ((c : Int) != 255) = true := by simp; omega
  have hix := ix5
  have hbt := andn c hc
  clear h hc h32 h255
  generalize c % 128 = d at *
  unfold zTok at HT
  go_enter Tryz.func52, Tryz.ntmps52
  go_upto_region 6 with fail
  generalize w.alloc (.cells #[.int .i64 0, .int .u8 0, .int .u8 0, .slice none 0 0, .string ⟨#[]⟩, .slice none 0 0] 34) = w1 at *
  have q0 := HT.out.prs.at_ 0 _ rfl
  rw [hp] at q0
  have HQ := Lib.hid (fun W (hb : Below w1.heap.size w1 W) => (HT.out.prs.next hb).at_ 0 _ rfl)
  rw [hp] at HQ
  go_region_with (first
    | (go_at_call 51; refine (steps_any _).mono ?_; rintro e w2 ⟨rfl, hb⟩; have hb1 : Below w1.heap.size w1 w2 := ((Below.refl _ w1).drew).trans hb; have q1 := HQ.out w2 hb1)
    | (go_at_call 79; refine (HS.out _ (HT.out.prs.next (‹Below w1.heap.size w1 _›))).mono ?_; intro e w3 hq; obtain ⟨t, A, cc, B, dd, rfl, ht, ha⟩ := hq.open6 (HT.out.more (‹Below w1.heap.size w1 _›)); have HA := Lib.hid ha; obtain ⟨z0, z1, z2, z3, z4, z5⟩ := six ha.tk.box; obtain ⟨f0, f1, f2, f3, f4, f5⟩ := six_fr ha.tk.box; unfold Tok.cs; clear ha hq ht))
  all_goals
    have hrp := repl6 HA.out.tk.box (.int .i64 t.kd) (.int .u8 (t.cd : Int)) (.int .u8 (t.mr : Int)) (.slice A t.ps.length cc) (.string t.it) (.slice B t.dt.length dd)
    go_wp2_with fail
    (try simp only [Exit.inBlock, Exit.then])
    exact bodyPost_ret (HA.out.ret6 hrp _ _ rfl _ rfl) rfl (HA.out.fin6 hrp)
end Go.Proofs.YtigaaidacndeiaaGreatDoor

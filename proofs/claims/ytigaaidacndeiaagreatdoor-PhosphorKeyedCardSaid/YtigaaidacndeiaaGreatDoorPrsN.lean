/-
  A parser's steps: what is done with a byte, whole.
-/
import Derived.Test.YtigaaidacndeiaaGreatDoorPrsM
namespace Go.Proofs.YtigaaidacndeiaaGreatDoor

open Go Go.RowKit

set_option maxRecDepth 100000 in
set_option maxHeartbeats 8000000 in
theorem take24_any (g : Nat) (s : Ps) (c : Nat) (hc : c = 24) (w : World) (h : PsB w g s)
    (HS : Hid (∀ W : World, PsB W g ps0 → Calls Tryz.prog 74 #[.pointer (some ⟨g, 0, none⟩), .int .u8 (c : Int)] W (TkQ W g (takeOutsideP ps0 c)))) :
    Calls Tryz.prog 31 #[.pointer (some ⟨g, 0, none⟩), .int .u8 (c : Int)] w (TkQ w g (takeOutsideP ps0 c)) := by
  have HT := Lib.hid (TkW.start h)
  have HR := Lib.hid (fun W (h : PsB W g s) => reset_any g s W h)
  have n24 : ((c : Int) == 24) = true := by simp; omega
  clear hc
  have hix := ix0
  clear h
  generalize hR : (takeOutsideP ps0 c) = R at *
  clear hR
  unfold zTok at HT
  go_enter Tryz.func31, Tryz.ntmps31
  go_upto_region 1 with fail
  generalize w.alloc (.cells #[.int .i64 0, .int .u8 0, .int .u8 0, .slice none 0 0, .string ⟨#[]⟩, .slice none 0 0] 34) = w1 at *
  go_wp2_with fail
  refine (HR.out _ HT.out.prs).mono ?_
  rintro e w4 ⟨rfl, hp, hg⟩
  have HT4 := Lib.hid (HT.out.call hp hg)
  clear hp hg HT HR
  have q0 : w4.cell? ⟨g, 0, none⟩ = some (.int .i64 0) := HT4.out.prs.at_ 0 _ rfl
  have HQ : Hid (∀ W, Below w4.heap.size w4 W → W.cell? ⟨g, 0, none⟩ = some (.int .i64 0)) := Lib.hid (fun W hb => (HT4.out.prs.next hb).at_ 0 _ rfl)
  go_upto_region 7 with fail
  go_region_with (first
    | (go_at_call 51; refine (steps_any _).mono ?_; rintro e w2 ⟨rfl, hb⟩; have hb1 : Below w4.heap.size w4 w2 := ((Below.refl _ w4).drew).trans hb; have q1 := HQ.out w2 hb1)
    | (go_at_call 74; refine (HS.out _ (HT4.out.prs.next (‹Below w4.heap.size w4 _›))).mono ?_; intro e w3 hq; obtain ⟨t, A, cc, B, dd, rfl, ht, ha⟩ := hq.open6 (HT4.out.more (‹Below w4.heap.size w4 _›)); have HA := Lib.hid ha; obtain ⟨z0, z1, z2, z3, z4, z5⟩ := six ha.tk.box; obtain ⟨f0, f1, f2, f3, f4, f5⟩ := six_fr ha.tk.box; unfold Tok.cs; clear ha hq ht))
  all_goals
    have hrp := repl6 HA.out.tk.box (.int .i64 t.kd) (.int .u8 (t.cd : Int)) (.int .u8 (t.mr : Int)) (.slice A t.ps.length cc) (.string t.it) (.slice B t.dt.length dd)
    go_wp2_with fail
    (try simp only [Exit.inBlock, Exit.then])
    exact bodyPost_ret (HA.out.ret6 hrp _ _ rfl _ rfl) rfl (HA.out.fin6 hrp)
set_option maxRecDepth 100000 in
set_option maxHeartbeats 8000000 in
theorem take26_any (g : Nat) (s : Ps) (c : Nat) (hc : c = 26) (w : World) (h : PsB w g s)
    (HS : Hid (∀ W : World, PsB W g ps0 → Calls Tryz.prog 74 #[.pointer (some ⟨g, 0, none⟩), .int .u8 (c : Int)] W (TkQ W g (takeOutsideP ps0 c)))) :
    Calls Tryz.prog 31 #[.pointer (some ⟨g, 0, none⟩), .int .u8 (c : Int)] w (TkQ w g (takeOutsideP ps0 c)) := by
  have HT := Lib.hid (TkW.start h)
  have HR := Lib.hid (fun W (h : PsB W g s) => reset_any g s W h)
  have n24 : ((c : Int) == 24) = false := by simp; omega
  have n26 : ((c : Int) == 26) = true := by simp; omega
  clear hc
  have hix := ix0
  clear h
  generalize hR : (takeOutsideP ps0 c) = R at *
  clear hR
  unfold zTok at HT
  go_enter Tryz.func31, Tryz.ntmps31
  go_upto_region 1 with fail
  generalize w.alloc (.cells #[.int .i64 0, .int .u8 0, .int .u8 0, .slice none 0 0, .string ⟨#[]⟩, .slice none 0 0] 34) = w1 at *
  go_wp2_with fail
  refine (HR.out _ HT.out.prs).mono ?_
  rintro e w4 ⟨rfl, hp, hg⟩
  have HT4 := Lib.hid (HT.out.call hp hg)
  clear hp hg HT HR
  have q0 : w4.cell? ⟨g, 0, none⟩ = some (.int .i64 0) := HT4.out.prs.at_ 0 _ rfl
  have HQ : Hid (∀ W, Below w4.heap.size w4 W → W.cell? ⟨g, 0, none⟩ = some (.int .i64 0)) := Lib.hid (fun W hb => (HT4.out.prs.next hb).at_ 0 _ rfl)
  go_upto_region 7 with fail
  go_region_with (first
    | (go_at_call 51; refine (steps_any _).mono ?_; rintro e w2 ⟨rfl, hb⟩; have hb1 : Below w4.heap.size w4 w2 := ((Below.refl _ w4).drew).trans hb; have q1 := HQ.out w2 hb1)
    | (go_at_call 74; refine (HS.out _ (HT4.out.prs.next (‹Below w4.heap.size w4 _›))).mono ?_; intro e w3 hq; obtain ⟨t, A, cc, B, dd, rfl, ht, ha⟩ := hq.open6 (HT4.out.more (‹Below w4.heap.size w4 _›)); have HA := Lib.hid ha; obtain ⟨z0, z1, z2, z3, z4, z5⟩ := six ha.tk.box; obtain ⟨f0, f1, f2, f3, f4, f5⟩ := six_fr ha.tk.box; unfold Tok.cs; clear ha hq ht))
  all_goals
    have hrp := repl6 HA.out.tk.box (.int .i64 t.kd) (.int .u8 (t.cd : Int)) (.int .u8 (t.mr : Int)) (.slice A t.ps.length cc) (.string t.it) (.slice B t.dt.length dd)
    go_wp2_with fail
    (try simp only [Exit.inBlock, Exit.then])
    exact bodyPost_ret (HA.out.ret6 hrp _ _ rfl _ rfl) rfl (HA.out.fin6 hrp)
set_option maxRecDepth 100000 in
set_option maxHeartbeats 8000000 in
theorem takeO_any (g : Nat) (s : Ps) (c : Nat) (h24 : c ≠ 24) (h26 : c ≠ 26) (hp : s.pl = 0) (w : World) (h : PsB w g s)
    (HS : Hid (∀ W : World, PsB W g s → Calls Tryz.prog 74 #[.pointer (some ⟨g, 0, none⟩), .int .u8 (c : Int)] W (TkQ W g (takeOutsideP s c)))) :
    Calls Tryz.prog 31 #[.pointer (some ⟨g, 0, none⟩), .int .u8 (c : Int)] w (TkQ w g (takeOutsideP s c)) := by
  have HT := Lib.hid (TkW.start h)
  have HR := Lib.hid (fun W (h : PsB W g s) => reset_any g s W h)
  have n24 : ((c : Int) == 24) = false := by simp; omega
  have n26 : ((c : Int) == 26) = false := by simp; omega
  have hix := ix0
  clear h
  generalize hR : (takeOutsideP s c) = R at *
  clear hR
  unfold zTok at HT
  go_enter Tryz.func31, Tryz.ntmps31
  go_upto_region 1 with fail
  generalize w.alloc (.cells #[.int .i64 0, .int .u8 0, .int .u8 0, .slice none 0 0, .string ⟨#[]⟩, .slice none 0 0] 34) = w1 at *
  have q0 := HT.out.prs.at_ 0 _ rfl
  rw [hp] at q0
  have HQ := Lib.hid (fun W (hb : Below w1.heap.size w1 W) => (HT.out.prs.next hb).at_ 0 _ rfl)
  rw [hp] at HQ
  clear HR
  go_upto_region 7 with fail
  go_region_with (first
    | (go_at_call 51; refine (steps_any _).mono ?_; rintro e w2 ⟨rfl, hb⟩; have hb1 : Below w1.heap.size w1 w2 := ((Below.refl _ w1).drew).trans hb; have q1 := HQ.out w2 hb1)
    | (go_at_call 74; refine (HS.out _ (HT.out.prs.next (‹Below w1.heap.size w1 _›))).mono ?_; intro e w3 hq; obtain ⟨t, A, cc, B, dd, rfl, ht, ha⟩ := hq.open6 (HT.out.more (‹Below w1.heap.size w1 _›)); have HA := Lib.hid ha; obtain ⟨z0, z1, z2, z3, z4, z5⟩ := six ha.tk.box; obtain ⟨f0, f1, f2, f3, f4, f5⟩ := six_fr ha.tk.box; unfold Tok.cs; clear ha hq ht))
  all_goals
    have hrp := repl6 HA.out.tk.box (.int .i64 t.kd) (.int .u8 (t.cd : Int)) (.int .u8 (t.mr : Int)) (.slice A t.ps.length cc) (.string t.it) (.slice B t.dt.length dd)
    go_wp2_with fail
    (try simp only [Exit.inBlock, Exit.then])
    exact bodyPost_ret (HA.out.ret6 hrp _ _ rfl _ rfl) rfl (HA.out.fin6 hrp)
set_option maxRecDepth 100000 in
set_option maxHeartbeats 8000000 in
theorem takeT_any (g : Nat) (s : Ps) (c : Nat) (h24 : c ≠ 24) (h26 : c ≠ 26) (hp : s.pl = 6) (w : World) (h : PsB w g s)
    (HS : Hid (∀ W : World, PsB W g s → Calls Tryz.prog 80 #[.pointer (some ⟨g, 0, none⟩), .int .u8 (c : Int)] W (TkQ W g (takeTextP s c)))) :
    Calls Tryz.prog 31 #[.pointer (some ⟨g, 0, none⟩), .int .u8 (c : Int)] w (TkQ w g (takeTextP s c)) := by
  have HT := Lib.hid (TkW.start h)
  have HR := Lib.hid (fun W (h : PsB W g s) => reset_any g s W h)
  have n24 : ((c : Int) == 24) = false := by simp; omega
  have n26 : ((c : Int) == 26) = false := by simp; omega
  have hix := ix6
  clear h
  generalize hR : (takeTextP s c) = R at *
  clear hR
  unfold zTok at HT
  go_enter Tryz.func31, Tryz.ntmps31
  go_upto_region 1 with fail
  generalize w.alloc (.cells #[.int .i64 0, .int .u8 0, .int .u8 0, .slice none 0 0, .string ⟨#[]⟩, .slice none 0 0] 34) = w1 at *
  have q0 := HT.out.prs.at_ 0 _ rfl
  rw [hp] at q0
  have HQ := Lib.hid (fun W (hb : Below w1.heap.size w1 W) => (HT.out.prs.next hb).at_ 0 _ rfl)
  rw [hp] at HQ
  clear HR
  go_upto_region 7 with fail
  go_region_with (first
    | (go_at_call 51; refine (steps_any _).mono ?_; rintro e w2 ⟨rfl, hb⟩; have hb1 : Below w1.heap.size w1 w2 := ((Below.refl _ w1).drew).trans hb; have q1 := HQ.out w2 hb1)
    | (go_at_call 80; refine (HS.out _ (HT.out.prs.next (‹Below w1.heap.size w1 _›))).mono ?_; intro e w3 hq; obtain ⟨t, A, cc, B, dd, rfl, ht, ha⟩ := hq.open6 (HT.out.more (‹Below w1.heap.size w1 _›)); have HA := Lib.hid ha; obtain ⟨z0, z1, z2, z3, z4, z5⟩ := six ha.tk.box; obtain ⟨f0, f1, f2, f3, f4, f5⟩ := six_fr ha.tk.box; unfold Tok.cs; clear ha hq ht))
  all_goals
    have hrp := repl6 HA.out.tk.box (.int .i64 t.kd) (.int .u8 (t.cd : Int)) (.int .u8 (t.mr : Int)) (.slice A t.ps.length cc) (.string t.it) (.slice B t.dt.length dd)
    go_wp2_with fail
    (try simp only [Exit.inBlock, Exit.then])
    exact bodyPost_ret (HA.out.ret6 hrp _ _ rfl _ rfl) rfl (HA.out.fin6 hrp)
set_option maxRecDepth 100000 in
set_option maxHeartbeats 8000000 in
theorem takeE_any (g : Nat) (s : Ps) (c : Nat) (h24 : c ≠ 24) (h26 : c ≠ 26) (hp : s.pl = 7) (w : World) (h : PsB w g s)
    (HS : Hid (∀ W : World, PsB W g s → Calls Tryz.prog 81 #[.pointer (some ⟨g, 0, none⟩), .int .u8 (c : Int)] W (TkQ W g (takeTextEscapeP s c)))) :
    Calls Tryz.prog 31 #[.pointer (some ⟨g, 0, none⟩), .int .u8 (c : Int)] w (TkQ w g (takeTextEscapeP s c)) := by
  have HT := Lib.hid (TkW.start h)
  have HR := Lib.hid (fun W (h : PsB W g s) => reset_any g s W h)
  have n24 : ((c : Int) == 24) = false := by simp; omega
  have n26 : ((c : Int) == 26) = false := by simp; omega
  have hix := ix7
  clear h
  generalize hR : (takeTextEscapeP s c) = R at *
  clear hR
  unfold zTok at HT
  go_enter Tryz.func31, Tryz.ntmps31
  go_upto_region 1 with fail
  generalize w.alloc (.cells #[.int .i64 0, .int .u8 0, .int .u8 0, .slice none 0 0, .string ⟨#[]⟩, .slice none 0 0] 34) = w1 at *
  have q0 := HT.out.prs.at_ 0 _ rfl
  rw [hp] at q0
  have HQ := Lib.hid (fun W (hb : Below w1.heap.size w1 W) => (HT.out.prs.next hb).at_ 0 _ rfl)
  rw [hp] at HQ
  clear HR
  go_upto_region 7 with fail
  go_region_with (first
    | (go_at_call 51; refine (steps_any _).mono ?_; rintro e w2 ⟨rfl, hb⟩; have hb1 : Below w1.heap.size w1 w2 := ((Below.refl _ w1).drew).trans hb; have q1 := HQ.out w2 hb1)
    | (go_at_call 81; refine (HS.out _ (HT.out.prs.next (‹Below w1.heap.size w1 _›))).mono ?_; intro e w3 hq; obtain ⟨t, A, cc, B, dd, rfl, ht, ha⟩ := hq.open6 (HT.out.more (‹Below w1.heap.size w1 _›)); have HA := Lib.hid ha; obtain ⟨z0, z1, z2, z3, z4, z5⟩ := six ha.tk.box; obtain ⟨f0, f1, f2, f3, f4, f5⟩ := six_fr ha.tk.box; unfold Tok.cs; clear ha hq ht))
  all_goals
    have hrp := repl6 HA.out.tk.box (.int .i64 t.kd) (.int .u8 (t.cd : Int)) (.int .u8 (t.mr : Int)) (.slice A t.ps.length cc) (.string t.it) (.slice B t.dt.length dd)
    go_wp2_with fail
    (try simp only [Exit.inBlock, Exit.then])
    exact bodyPost_ret (HA.out.ret6 hrp _ _ rfl _ rfl) rfl (HA.out.fin6 hrp)
set_option maxRecDepth 100000 in
set_option maxHeartbeats 8000000 in
theorem takeI_any (g : Nat) (s : Ps) (c : Nat) (hc : c < 256) (h24 : c ≠ 24) (h26 : c ≠ 26) (hp : 1 ≤ s.pl ∧ s.pl ≤ 5) (w : World) (h : PsB w g s) :
    Calls Tryz.prog 31 #[.pointer (some ⟨g, 0, none⟩), .int .u8 (c : Int)] w (TkQ w g (takeWithinP s c)) := by
  have HT := Lib.hid (TkW.start h)
  have HC := Lib.hid (fun W (h : PsB W g s) => takeWithin_any g s c hc hp W h)
  have n24 : ((c : Int) == 24) = false := by simp; omega
  have n26 : ((c : Int) == 26) = false := by simp; omega
  have p0 : (s.pl == 0) = false := by simp; omega
  have p6 : (s.pl == 6) = false := by simp; omega
  have p7 : (s.pl == 7) = false := by simp; omega
  have q0 : PsB w g s := h
  clear h h24 h26 hp hc q0
  unfold zTok at HT
  go_enter Tryz.func31, Tryz.ntmps31
  go_upto_region 1 with fail
  generalize w.alloc (.cells #[.int .i64 0, .int .u8 0, .int .u8 0, .slice none 0 0, .string ⟨#[]⟩, .slice none 0 0] 34) = w1 at *
  have q0 := HT.out.prs.at_ 0 _ rfl
  go_upto_region 8 with fail
  go_wp2_with fail
  refine (HC.out _ HT.out.prs).mono ?_
  intro e w2 hq
  obtain ⟨X, rfl, ha⟩ := hq.open HT.out
  have HA := Lib.hid ha
  clear ha hq
  have tkX : (Tryz.prog.info? 34).map (·.size) = some X.size := by rw [HA.out.six]; exact tkS6
  have tkX6 : zTok.size = X.size := by rw [HA.out.six]; rfl
  go_wp2_with (refine wpList_store_row rfl _ _ _ rfl w.heap.size X rfl rfl _ _ HA.out.tk.box tkX tkX6 HA.out.one ?_)
  (try simp only [Exit.inBlock, Exit.then])
  exact bodyPost_ret (HA.out.ret _ _ rfl _ rfl) rfl (by skip; exact HA.out.fin)
end Go.Proofs.YtigaaidacndeiaaGreatDoor

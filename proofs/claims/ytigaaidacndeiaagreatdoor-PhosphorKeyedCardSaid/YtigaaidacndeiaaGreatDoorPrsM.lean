/-
  A parser's steps: what is done with a byte.
-/
import Derived.Test.YtigaaidacndeiaaGreatDoorPrsL
namespace Go.Proofs.YtigaaidacndeiaaGreatDoor

open Go Go.RowKit

def stepP (s : Ps) (c : Nat) : Ps × Tok := if s.pl = 1 then takeEscapedP s c else if s.pl = 2 then takeEscIntersP s c else if s.pl = 3 then takeFirstP s c else if s.pl = 4 then takeNumbersP s c else takeIntersP s c
def takeWithinP (s : Ps) (c : Nat) : Ps × Tok := if c = 27 then (begP, tok0) else if c < 32 then (s, ctlT c) else if c = 255 then (s, tok0) else stepP s (c % 128)
def takePl (s : Ps) (c : Nat) : Ps × Tok := if s.pl = 0 then takeOutsideP s c else if s.pl = 6 then takeTextP s c else takeWithinP s c
/-- What is done with a byte, but behind an escape in a text. -/
def takeP0 (s : Ps) (c : Nat) : Ps × Tok := if c = 24 ∨ c = 26 then takePl ps0 c else takePl s c
def takeTextEscapeP (s : Ps) (c : Nat) : Ps × Tok := if c = 92 ∨ c = 220 then (ps0, endT s) else takeP0 begP c
def takeP (s : Ps) (c : Nat) : Ps × Tok := if s.pl = 7 ∧ ¬ (c = 24 ∨ c = 26) then takeTextEscapeP s c else takeP0 s c
set_option maxRecDepth 100000 in
set_option maxHeartbeats 8000000 in
theorem takeWithin_any (g : Nat) (s : Ps) (c : Nat) (hc : c < 256) (hp : 1 ≤ s.pl ∧ s.pl ≤ 5) (w : World) (h : PsB w g s) :
    Calls Tryz.prog 52 #[.pointer (some ⟨g, 0, none⟩), .int .u8 (c : Int)] w (TkQ w g (takeWithinP s c)) := by
  have HT := Lib.hid (TkW.start h)
  have HB := Lib.hid (fun W (h : PsB W g s) => begin_any g s W h)
  have hp0 := h
  clear h
  by_cases h27 : c = 27
  · clear hp0
    subst h27
    unfold zTok at HT
    go_enter Tryz.func52, Tryz.ntmps52
    go_upto_region 2 with fail
    generalize w.alloc (.cells #[.int .i64 0, .int .u8 0, .int .u8 0, .slice none 0 0, .string ⟨#[]⟩, .slice none 0 0] 34) = w1 at *
    go_wp2_with fail
    refine (HB.out _ HT.out.prs).mono ?_
    rintro e w5 ⟨rfl, hp, hg⟩
    have HT5 := Lib.hid (HT.out.call hp hg)
    clear hp hg HT
    have HA := Lib.hid (TkA.zero HT5.out)
    go_wp2_with (refine wpList_store_row rfl _ _ _ rfl w.heap.size zTok rfl rfl _ _ HA.out.tk.box tkS6 rfl zTok_one ?_)
    (try simp only [Exit.inBlock, Exit.then])
    exact bodyPost_ret (HA.out.ret _ _ rfl _ rfl) rfl (by unfold takeWithinP; rw [if_pos rfl]; exact HA.out.fin)
  have n27 : ((c : Int) == 27) = false := by simp; omega
  by_cases h32 : c < 32
  · have l32 : ((c : Int) < 32) = True := eq_true (by omega)
    clear hp0
    unfold zTok at HT
    go_enter Tryz.func52, Tryz.ntmps52
    go_upto_region 4 with fail
    generalize w.alloc (.cells #[.int .i64 0, .int .u8 0, .int .u8 0, .slice none 0 0, .string ⟨#[]⟩, .slice none 0 0] 34) = w1 at *
    go_wp2_with fail
    refine (control_any c _).mono ?_
    rintro e w5 ⟨rfl, hb⟩
    have HA : Hid (TkA w w5 g (s, ctlT c) #[.int .i64 2, .int .u8 (c : Int), .int .u8 0, .slice none 0 0, .string ⟨#[]⟩, .slice none 0 0]) := Lib.hid ⟨HT.out.more hb, otkC _ _ _, by simp [Value.oneCell'], rfl⟩
    clear hb
    generalize hX : (#[.int .i64 2, .int .u8 (c : Int), .int .u8 0, .slice none 0 0, .string ⟨#[]⟩, .slice none 0 0] : Array Value) = X at *
    clear hX
    have tkX : (Tryz.prog.info? 34).map (·.size) = some X.size := by rw [HA.out.six]; exact tkS6
    have tkX6 : zTok.size = X.size := by rw [HA.out.six]; rfl
    go_wp2_with (refine wpList_store_row rfl _ _ _ rfl w.heap.size X rfl rfl _ _ HA.out.tk.box tkX tkX6 HA.out.one ?_)
    (try simp only [Exit.inBlock, Exit.then])
    exact bodyPost_ret (HA.out.ret _ _ rfl _ rfl) rfl (by unfold takeWithinP; rw [if_neg h27, if_pos h32]; exact HA.out.fin)
  have l32 : ((c : Int) < 32) = False := eq_false (by omega)
  by_cases h255 : c = 255
  · clear hp0
    subst h255
    unfold zTok at HT
    go_enter Tryz.func52, Tryz.ntmps52
    go_upto_region 7 with fail
    generalize w.alloc (.cells #[.int .i64 0, .int .u8 0, .int .u8 0, .slice none 0 0, .string ⟨#[]⟩, .slice none 0 0] 34) = w1 at *
    have HA := Lib.hid (TkA.zero HT.out)
    go_wp2_with (refine wpList_store_row rfl _ _ _ rfl w.heap.size zTok rfl rfl _ _ HA.out.tk.box tkS6 rfl zTok_one ?_)
    (try simp only [Exit.inBlock, Exit.then])
    exact bodyPost_ret (HA.out.ret _ _ rfl _ rfl) rfl (by unfold takeWithinP; rw [if_neg (by decide), if_neg (by decide), if_pos rfl]; exact HA.out.fin)
  have hpl : s.pl = 1 ∨ s.pl = 2 ∨ s.pl = 3 ∨ s.pl = 4 ∨ s.pl = 5 := by omega
  have he : takeWithinP s c = stepP s (c % 128) := by unfold takeWithinP; rw [if_neg h27, if_neg h32, if_neg h255]
  rw [he]
  clear HT HB
  rcases hpl with e | e | e | e | e
  · rw [show stepP s (c % 128) = takeEscapedP s (c % 128) from by unfold stepP; rw [if_pos e]]
    exact within1_any g s c hc (by omega) h255 e w hp0
  · rw [show stepP s (c % 128) = takeEscIntersP s (c % 128) from by unfold stepP; rw [if_neg (by omega), if_pos e]]
    exact within2_any g s c hc (by omega) h255 e w hp0
  · rw [show stepP s (c % 128) = takeFirstP s (c % 128) from by unfold stepP; rw [if_neg (by omega), if_neg (by omega), if_pos e]]
    exact within3_any g s c hc (by omega) h255 e w hp0
  · rw [show stepP s (c % 128) = takeNumbersP s (c % 128) from by unfold stepP; rw [if_neg (by omega), if_neg (by omega), if_neg (by omega), if_pos e]]
    exact within4_any g s c hc (by omega) h255 e w hp0
  · rw [show stepP s (c % 128) = takeIntersP s (c % 128) from by unfold stepP; rw [if_neg (by omega), if_neg (by omega), if_neg (by omega), if_neg (by omega)]]
    exact within5_any g s c hc (by omega) h255 e w hp0
end Go.Proofs.YtigaaidacndeiaaGreatDoor

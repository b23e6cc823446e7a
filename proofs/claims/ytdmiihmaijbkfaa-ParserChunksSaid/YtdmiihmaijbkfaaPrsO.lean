/-
  What is done with a byte, whole.
-/
import Derived.Test.YtdmiihmaijbkfaaPrsN
namespace Go.Proofs.Ytdmiihmaijbkfaa
open Go Go.RowKit

/-- What is done with a byte, but behind an escape in a text. -/
theorem take0_any (g : Nat) (s : Ps) (c : Nat) (hc : c < 256) (hp : 0 ≤ s.pl ∧ s.pl ≤ 7) (h7 : s.pl = 7 → c = 24 ∨ c = 26) (w : World) (h : PsB w g s) :
    Calls Try.prog 26 #[.pointer (some ⟨g, 0, none⟩), .int .u8 (c : Int)] w (TkQ w g (takeP0 s c)) := by
  by_cases hcc : c = 24 ∨ c = 26
  · rw [show takeP0 s c = takeOutsideP ps0 c from by unfold takeP0 takePl; rw [if_pos hcc]; rfl]
    rcases hcc with e | e
    · exact take24_any g s c e w h (Lib.hid fun W h => takeOutside_any g ps0 c W h)
    · exact take26_any g s c e w h (Lib.hid fun W h => takeOutside_any g ps0 c W h)
  · have h7' : s.pl ≠ 7 := fun e => hcc (h7 e)
    have e1 : takeP0 s c = takePl s c := by unfold takeP0; rw [if_neg hcc]
    rw [e1]
    unfold takePl
    by_cases p0 : s.pl = 0
    · rw [if_pos p0]; exact takeO_any g s c (fun e => hcc (.inl e)) (fun e => hcc (.inr e)) p0 w h (Lib.hid fun W h => takeOutside_any g s c W h)
    · rw [if_neg p0]
      by_cases p6 : s.pl = 6
      · rw [if_pos p6]; exact takeT_any g s c (fun e => hcc (.inl e)) (fun e => hcc (.inr e)) p6 w h (Lib.hid fun W h => takeText_any g s c W h)
      · rw [if_neg p6]; exact takeI_any g s c hc (fun e => hcc (.inl e)) (fun e => hcc (.inr e)) (by omega) w h
set_option maxRecDepth 100000 in
set_option maxHeartbeats 8000000 in
theorem takeTextEscape_any (g : Nat) (s : Ps) (c : Nat) (hc : c < 256) (w : World) (h : PsB w g s) :
    Calls Try.prog 62 #[.pointer (some ⟨g, 0, none⟩), .int .u8 (c : Int)] w (TkQ w g (takeTextEscapeP s c)) := by
  have HT := Lib.hid (TkW.start h)
  have HB := Lib.hid (fun W (h : PsB W g s) => begin_any g s W h)
  have HE := Lib.hid (fun W (h : PsB W g s) => end_any g s W h)
  have HC := Lib.hid (fun W (h : PsB W g begP) => take0_any g begP c hc ⟨by decide, by decide⟩ (fun e => by cases e) W h)
  clear h
  unfold zTok at HT
  go_enter Try.func62, Try.ntmps62
  go_upto_region 1 with fail
  generalize w.alloc (.cells #[.int .i64 0, .int .u8 0, .int .u8 0, .slice none 0 0, .string ⟨#[]⟩, .slice none 0 0] 30) = w1 at *
  by_cases h92 : c = 92
  · subst h92
    go_upto_region 2 with fail
    go_wp2_with fail
    refine (HE.out _ HT.out.prs).mono ?_
    intro e w2 hq
    obtain ⟨X, rfl, ha⟩ := hq.open HT.out
    have HA := Lib.hid ha
    clear ha hq
    have tkX : (Try.prog.info? 30).map (·.size) = some X.size := by rw [HA.out.six]; exact tkS6
    have tkX6 : zTok.size = X.size := by rw [HA.out.six]; rfl
    go_wp2_with (refine wpList_store_row rfl _ _ _ rfl w.heap.size X rfl rfl _ _ HA.out.tk.box tkX tkX6 HA.out.one ?_)
    (try simp only [Exit.inBlock, Exit.then])
    exact bodyPost_ret (HA.out.ret _ _ rfl _ rfl) rfl (by unfold takeTextEscapeP; rw [if_pos (.inl rfl)]; exact HA.out.fin)
  have n92 : ((c : Int) == 92) = false := by simp; omega
  by_cases h220 : c = 220
  · subst h220
    go_upto_region 2 with fail
    go_wp2_with fail
    refine (HE.out _ HT.out.prs).mono ?_
    intro e w2 hq
    obtain ⟨X, rfl, ha⟩ := hq.open HT.out
    have HA := Lib.hid ha
    clear ha hq
    have tkX : (Try.prog.info? 30).map (·.size) = some X.size := by rw [HA.out.six]; exact tkS6
    have tkX6 : zTok.size = X.size := by rw [HA.out.six]; rfl
    go_wp2_with (refine wpList_store_row rfl _ _ _ rfl w.heap.size X rfl rfl _ _ HA.out.tk.box tkX tkX6 HA.out.one ?_)
    (try simp only [Exit.inBlock, Exit.then])
    exact bodyPost_ret (HA.out.ret _ _ rfl _ rfl) rfl (by unfold takeTextEscapeP; rw [if_pos (.inr rfl)]; exact HA.out.fin)
  have n220 : ((c : Int) == 220) = false := by simp; omega
  go_wp2_with fail
  refine (HB.out _ HT.out.prs).mono ?_
  rintro e w5 ⟨rfl, hp, hg⟩
  have HT5 := Lib.hid (HT.out.call hp hg)
  clear hp hg HT
  go_wp2_with fail
  refine (HC.out _ HT5.out.prs).mono ?_
  intro e w2 hq
  obtain ⟨X, rfl, ha⟩ := hq.open HT5.out
  have HA := Lib.hid ha
  clear ha hq
  have tkX : (Try.prog.info? 30).map (·.size) = some X.size := by rw [HA.out.six]; exact tkS6
  have tkX6 : zTok.size = X.size := by rw [HA.out.six]; rfl
  go_wp2_with (refine wpList_store_row rfl _ _ _ rfl w.heap.size X rfl rfl _ _ HA.out.tk.box tkX tkX6 HA.out.one ?_)
  (try simp only [Exit.inBlock, Exit.then])
  exact bodyPost_ret (HA.out.ret _ _ rfl _ rfl) rfl (by unfold takeTextEscapeP; rw [if_neg (by omega)]; exact HA.out.fin)
/-- What is done with a byte. -/
theorem take_any (g : Nat) (s : Ps) (c : Nat) (hc : c < 256) (hp : 0 ≤ s.pl ∧ s.pl ≤ 7) (w : World) (h : PsB w g s) :
    Calls Try.prog 26 #[.pointer (some ⟨g, 0, none⟩), .int .u8 (c : Int)] w (TkQ w g (takeP s c)) := by
  unfold takeP
  by_cases h7 : s.pl = 7 ∧ ¬ (c = 24 ∨ c = 26)
  · rw [if_pos h7]
    exact takeE_any g s c (fun e => h7.2 (.inl e)) (fun e => h7.2 (.inr e)) h7.1 w h (Lib.hid fun W h => takeTextEscape_any g s c hc W h)
  · rw [if_neg h7]
    exact take0_any g s c hc hp (fun e => by by_cases hcc : c = 24 ∨ c = 26; exact hcc; exact absurd ⟨e, hcc⟩ h7) w h
end Go.Proofs.Ytdmiihmaijbkfaa

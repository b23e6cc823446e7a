/-
  A parser's steps outside, and in a text.
-/
import Derived.Test.YtpiliicphoacfaaDoorPrsI
namespace Go.Proofs.YtpiliicphoacfaaDoor

open Go Go.RowKit

set_option maxRecDepth 100000 in
set_option maxHeartbeats 8000000 in
theorem takeOutside_any (g : Nat) (s : Ps) (c : Nat) (w : World) (h : PsB w g s) :
    Calls Tryd.prog 66 #[.pointer (some ⟨g, 0, none⟩), .int .u8 (c : Int)] w (TkQ w g (takeOutsideP s c)) := by
  have HT := Lib.hid (TkW.start h)
  have HB := Lib.hid (fun W (h : PsB W g s) => begin_any g s W h)
  clear h
  unfold zTok at HT
  go_enter Tryd.func66, Tryd.ntmps66
  go_upto_region 2 with fail
  generalize w.alloc (.cells #[.int .i64 0, .int .u8 0, .int .u8 0, .slice none 0 0, .string ⟨#[]⟩, .slice none 0 0] 29) = w1 at *
  by_cases h27 : c = 27
  · subst h27
    go_wp2_with fail
    refine (HB.out _ HT.out.prs).mono ?_
    rintro e w5 ⟨rfl, hp, hg⟩
    have HT5 := Lib.hid (HT.out.call hp hg)
    clear hp hg HT
    have HA := Lib.hid (TkA.zero HT5.out)
    go_wp2_with (refine wpList_store_row rfl _ _ _ rfl w.heap.size zTok rfl rfl _ _ HA.out.tk.box tkS6 rfl zTok_one ?_)
    (try simp only [Exit.inBlock, Exit.then])
    exact bodyPost_ret (HA.out.ret _ _ rfl _ rfl) rfl (by unfold takeOutsideP; rw [if_pos rfl]; exact HA.out.fin)
  have n27 : ((c : Int) == 27) = false := by simp; omega
  by_cases h24 : c = 24
  · subst h24
    go_upto_region 7 with fail
    have HA := Lib.hid (TkA.zero HT.out)
    go_wp2_with (refine wpList_store_row rfl _ _ _ rfl w.heap.size zTok rfl rfl _ _ HA.out.tk.box tkS6 rfl zTok_one ?_)
    (try simp only [Exit.inBlock, Exit.then])
    exact bodyPost_ret (HA.out.ret _ _ rfl _ rfl) rfl (by unfold takeOutsideP; rw [if_neg (by decide), if_pos rfl]; exact HA.out.fin)
  have n24 : ((c : Int) == 24) = false := by simp; omega
  by_cases h32 : c < 32
  · have l32 : ((c : Int) < 32) = True := eq_true (by omega)
    go_wp2_with fail
    refine (control_any c _).mono ?_
    rintro e w5 ⟨rfl, hb⟩
    have HA : Hid (TkA w w5 g (s, ctlT c) #[.int .i64 2, .int .u8 (c : Int), .int .u8 0, .slice none 0 0, .string ⟨#[]⟩, .slice none 0 0]) := Lib.hid ⟨HT.out.more hb, otkC _ _ _, by simp [Value.oneCell'], rfl⟩
    clear hb
    generalize hX : (#[.int .i64 2, .int .u8 (c : Int), .int .u8 0, .slice none 0 0, .string ⟨#[]⟩, .slice none 0 0] : Array Value) = X at *
    clear hX
    have tkX : (Tryd.prog.info? 29).map (·.size) = some X.size := by rw [HA.out.six]; exact tkS6
    have tkX6 : zTok.size = X.size := by rw [HA.out.six]; rfl
    go_wp2_with (refine wpList_store_row rfl _ _ _ rfl w.heap.size X rfl rfl _ _ HA.out.tk.box tkX tkX6 HA.out.one ?_)
    (try simp only [Exit.inBlock, Exit.then])
    exact bodyPost_ret (HA.out.ret _ _ rfl _ rfl) rfl (by unfold takeOutsideP; rw [if_neg h27, if_neg h24, if_pos h32]; exact HA.out.fin)
  have l32 : ((c : Int) < 32) = False := eq_false (by omega)
  have HA : Hid (TkA w w1 g (s, prtT c) #[.int .i64 1, .int .u8 (c : Int), .int .u8 0, .slice none 0 0, .string ⟨#[]⟩, .slice none 0 0]) := Lib.hid ⟨HT.out, otkP _ _ _, by simp [Value.oneCell'], rfl⟩
  go_wp2_with (refine wpList_store_row rfl _ _ _ rfl w.heap.size #[.int .i64 1, .int .u8 (c : Int), .int .u8 0, .slice none 0 0, .string ⟨#[]⟩, .slice none 0 0] rfl rfl _ _ HA.out.tk.box tkS6 rfl (by simp [Value.oneCell']) ?_)
  (try simp only [Exit.inBlock, Exit.then])
  exact bodyPost_ret (HA.out.ret _ _ rfl _ rfl) rfl (by unfold takeOutsideP; rw [if_neg h27, if_neg h24, if_neg h32]; exact HA.out.fin)
set_option maxRecDepth 100000 in
set_option maxHeartbeats 8000000 in
theorem takeText_any (g : Nat) (s : Ps) (c : Nat) (w : World) (h : PsB w g s) :
    Calls Tryd.prog 72 #[.pointer (some ⟨g, 0, none⟩), .int .u8 (c : Int)] w (TkQ w g (takeTextP s c)) := by
  have HT := Lib.hid (TkW.start h)
  have HE := Lib.hid (fun W (h : PsB W g s) => end_any g s W h)
  have HH := Lib.hid (fun W (h : PsB W g s) => hold_any g s c W h)
  clear h
  unfold zTok at HT
  go_enter Tryd.func72, Tryd.ntmps72
  go_upto_region 1 with fail
  generalize w.alloc (.cells #[.int .i64 0, .int .u8 0, .int .u8 0, .slice none 0 0, .string ⟨#[]⟩, .slice none 0 0] 29) = w1 at *
  have q0 := HT.out.prs.at_ 0 _ rfl
  have f0 := HT.out.prs.blk.frozen 0
  have q1 := HT.out.prs.at_ 1 _ rfl
  by_cases h27 : c = 27
  · subst h27
    go_upto_region 7 with fail
    have HT2 := Lib.hid (HT.out.put (t := {s with pl := 7}) 0 (.int .i64 7) rfl (HT.out.prs.ok.to rfl rfl rfl))
    generalize w1.setCell ⟨g, 0, none⟩ (.int .i64 7) = w2 at *
    clear HT q0 f0 q1
    have HA := Lib.hid (TkA.zero HT2.out)
    go_wp2_with (refine wpList_store_row rfl _ _ _ rfl w.heap.size zTok rfl rfl _ _ HA.out.tk.box tkS6 rfl zTok_one ?_)
    (try simp only [Exit.inBlock, Exit.then])
    exact bodyPost_ret (HA.out.ret _ _ rfl _ rfl) rfl (by unfold takeTextP; rw [if_pos rfl]; exact HA.out.fin)
  have n27 : ((c : Int) == 27) = false := by simp; omega
  clear q0 f0
  by_cases h7 : c = 7 ∧ s.kd = 6
  · obtain ⟨rfl, hk⟩ := h7
    rw [hk] at q1
    go_upto_region 4 with fail
    go_wp2_with fail
    refine (HE.out _ HT.out.prs).mono ?_
    intro e w2 hq
    obtain ⟨X, rfl, ha⟩ := hq.open HT.out
    have HA := Lib.hid ha
    clear ha hq
    have tkX : (Tryd.prog.info? 29).map (·.size) = some X.size := by rw [HA.out.six]; exact tkS6
    have tkX6 : zTok.size = X.size := by rw [HA.out.six]; rfl
    go_wp2_with (refine wpList_store_row rfl _ _ _ rfl w.heap.size X rfl rfl _ _ HA.out.tk.box tkX tkX6 HA.out.one ?_)
    (try simp only [Exit.inBlock, Exit.then])
    exact bodyPost_ret (HA.out.ret _ _ rfl _ rfl) rfl (by unfold takeTextP; rw [if_neg h27, if_pos ⟨rfl, hk⟩]; exact HA.out.fin)
  have HU : Hid (takeTextP s c = if pData c then (holdP s c, tok0) else (s, tok0)) := Lib.hid (by unfold takeTextP; rw [if_neg h27, if_neg h7])
  by_cases hc7 : c = 7
  · have hk : (s.kd == 6) = false := by simp; exact fun e => h7 ⟨hc7, e⟩
    have n7 : ((c : Int) == 7) = true := by simp; omega
    clear h7 h27 hc7
    go_upto_region 5 with fail
    go_wp2_with fail
    refine (pData_any c _).mono ?_
    rintro e w3 ⟨rfl, rfl⟩
    rcases hd : pData c with _ | _
    · go_upto_region 7 with fail
      have HA := Lib.hid (TkA.zero HT.out)
      go_wp2_with (refine wpList_store_row rfl _ _ _ rfl w.heap.size zTok rfl rfl _ _ HA.out.tk.box tkS6 rfl zTok_one ?_)
      (try simp only [Exit.inBlock, Exit.then])
      exact bodyPost_ret (HA.out.ret _ _ rfl _ rfl) rfl (by rw [HU.out, hd]; exact HA.out.fin)
    · go_wp2_with fail
      refine (HH.out _ HT.out.prs).mono ?_
      rintro e w5 ⟨rfl, hp, hg⟩
      have HT5 := Lib.hid (HT.out.call hp hg)
      clear hp hg HT
      have HA := Lib.hid (TkA.zero HT5.out)
      go_wp2_with (refine wpList_store_row rfl _ _ _ rfl w.heap.size zTok rfl rfl _ _ HA.out.tk.box tkS6 rfl zTok_one ?_)
      (try simp only [Exit.inBlock, Exit.then])
      exact bodyPost_ret (HA.out.ret _ _ rfl _ rfl) rfl (by rw [HU.out, hd]; exact HA.out.fin)
  · have n7 : ((c : Int) == 7) = false := by simp; omega
    clear h7 h27 hc7
    go_upto_region 5 with fail
    go_wp2_with fail
    refine (pData_any c _).mono ?_
    rintro e w3 ⟨rfl, rfl⟩
    rcases hd : pData c with _ | _
    · go_upto_region 7 with fail
      have HA := Lib.hid (TkA.zero HT.out)
      go_wp2_with (refine wpList_store_row rfl _ _ _ rfl w.heap.size zTok rfl rfl _ _ HA.out.tk.box tkS6 rfl zTok_one ?_)
      (try simp only [Exit.inBlock, Exit.then])
      exact bodyPost_ret (HA.out.ret _ _ rfl _ rfl) rfl (by rw [HU.out, hd]; exact HA.out.fin)
    · go_wp2_with fail
      refine (HH.out _ HT.out.prs).mono ?_
      rintro e w5 ⟨rfl, hp, hg⟩
      have HT5 := Lib.hid (HT.out.call hp hg)
      clear hp hg HT
      have HA := Lib.hid (TkA.zero HT5.out)
      go_wp2_with (refine wpList_store_row rfl _ _ _ rfl w.heap.size zTok rfl rfl _ _ HA.out.tk.box tkS6 rfl zTok_one ?_)
      (try simp only [Exit.inBlock, Exit.then])
      exact bodyPost_ret (HA.out.ret _ _ rfl _ rfl) rfl (by rw [HU.out, hd]; exact HA.out.fin)
end Go.Proofs.YtpiliicphoacfaaDoor

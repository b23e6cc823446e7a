/-
  A parser's steps, on.
-/
import Derived.Test.YtpiliicphoacfaaDoorPrsH
namespace Go.Proofs.YtpiliicphoacfaaDoor

open Go Go.RowKit

theorem u8_nat (c : Nat) (hc : c < 256) : ((UInt8.ofNat c).toNat : Int) = (c : Int) := by simp; omega
set_option maxRecDepth 100000 in
set_option maxHeartbeats 8000000 in
theorem takeNumbers_any (g : Nat) (s : Ps) (c : Nat) (hc : c < 256) (w : World) (h : PsB w g s) :
    Calls Tryd.prog 70 #[.pointer (some ⟨g, 0, none⟩), .int .u8 (c : Int)] w (TkQ w g (takeNumbersP s c)) := by
  have HT := Lib.hid (TkW.start h)
  have HC := Lib.hid (fun W (h : PsB W g s) => takeInters_any g s c W h)
  have hb0 := u8_nat c hc
  have HY : Hid (okb (UInt8.ofNat c) = true → ∀ W, PsB W g s → Calls Tryd.prog 92 #[.pointer (some ⟨g, 7, none⟩), .int .u8 (c : Int)] W fun e w' => e = .returned (.bool true) ∧ PsB w' g {s with fs := stepF s.fs (UInt8.ofNat c)} ∧ W.grownBy w' (some g)) := Lib.hid (fun hb W h => by
    have := byteP_yes g s (UInt8.ofNat c) hb W h
    rw [hb0] at this; exact this)
  have HN : Hid (okb (UInt8.ofNat c) = false → ∀ W, Calls Tryd.prog 92 #[.pointer (some ⟨g, 7, none⟩), .int .u8 (c : Int)] W fun e w' => e = .returned (.bool false) ∧ W = w') := Lib.hid (fun hb W => by
    have := byteP_no g (UInt8.ofNat c) hb W
    rw [hb0] at this; exact this)
  clear hb0
  clear h
  unfold zTok at HT
  go_enter Tryd.func70, Tryd.ntmps70
  go_upto_region 1 with fail
  generalize w.alloc (.cells #[.int .i64 0, .int .u8 0, .int .u8 0, .slice none 0 0, .string ⟨#[]⟩, .slice none 0 0] 29) = w1 at *
  rcases h1 : okb (UInt8.ofNat c) with _ | _
  · go_wp2_with fail
    refine (HN.out h1 _).mono ?_
    rintro e w2 ⟨rfl, rfl⟩
    go_upto_region 3 with fail
    go_wp2_with fail
    refine (HC.out _ HT.out.prs).mono ?_
    intro e w2 hq
    obtain ⟨X, rfl, ha⟩ := hq.open HT.out
    have HA := Lib.hid ha
    clear ha hq
    have tkX : (Tryd.prog.info? 29).map (·.size) = some X.size := by rw [HA.out.six]; exact tkS6
    have tkX6 : zTok.size = X.size := by rw [HA.out.six]; rfl
    go_wp2_with (refine wpList_store_row rfl _ _ _ rfl w.heap.size X rfl rfl _ _ HA.out.tk.box tkX tkX6 HA.out.one ?_)
    (try simp only [Exit.inBlock, Exit.then])
    exact bodyPost_ret (HA.out.ret _ _ rfl _ rfl) rfl (by unfold takeNumbersP; rw [h1]; exact HA.out.fin)
  · go_wp2_with fail
    refine (HY.out h1 _ HT.out.prs).mono ?_
    rintro e w2 ⟨rfl, hp, hg⟩
    have HT2 := Lib.hid (HT.out.call hp hg)
    clear hp hg HT
    have HA := Lib.hid (TkA.zero HT2.out)
    go_wp2_with (refine wpList_store_row rfl _ _ _ rfl w.heap.size zTok rfl rfl _ _ HA.out.tk.box tkS6 rfl zTok_one ?_)
    (try simp only [Exit.inBlock, Exit.then])
    exact bodyPost_ret (HA.out.ret _ _ rfl _ rfl) rfl (by unfold takeNumbersP; rw [h1]; exact HA.out.fin)
set_option maxRecDepth 100000 in
set_option maxHeartbeats 8000000 in
theorem takeFirst_any (g : Nat) (s : Ps) (c : Nat) (hc : c < 256) (w : World) (h : PsB w g s) :
    Calls Tryd.prog 69 #[.pointer (some ⟨g, 0, none⟩), .int .u8 (c : Int)] w (TkQ w g (takeFirstP s c)) := by
  have HT := Lib.hid (TkW.start h)
  have HC := Lib.hid (fun W (h : PsB W g {s with pl := 4}) => takeNumbers_any g {s with pl := 4} c hc W h)
  clear h
  unfold zTok at HT
  go_enter Tryd.func69, Tryd.ntmps69
  go_upto_region 1 with fail
  generalize w.alloc (.cells #[.int .i64 0, .int .u8 0, .int .u8 0, .slice none 0 0, .string ⟨#[]⟩, .slice none 0 0] 29) = w1 at *
  have q0 := HT.out.prs.at_ 0 _ rfl
  have f0 := HT.out.prs.blk.frozen 0
  go_upto_region 2 with fail
  have HT2 := Lib.hid (HT.out.put (t := {s with pl := 4}) 0 (.int .i64 4) rfl (HT.out.prs.ok.to rfl rfl rfl))
  generalize w1.setCell ⟨g, 0, none⟩ (.int .i64 4) = w2 at *
  clear HT q0 f0 w1
  have q3 := HT2.out.prs.at_ 3 _ rfl
  have f3 := HT2.out.prs.blk.frozen 3
  go_wp2_with fail
  refine (pMark_any c _).mono ?_
  rintro e w3 ⟨rfl, rfl⟩
  rcases h1 : pMark c with _ | _
  · clear q3 f3
    go_upto_region 3 with fail
    go_wp2_with fail
    refine (HC.out _ HT2.out.prs).mono ?_
    intro e w2 hq
    obtain ⟨X, rfl, ha⟩ := hq.open HT2.out
    have HA := Lib.hid ha
    clear ha hq
    have tkX : (Tryd.prog.info? 29).map (·.size) = some X.size := by rw [HA.out.six]; exact tkS6
    have tkX6 : zTok.size = X.size := by rw [HA.out.six]; rfl
    go_wp2_with (refine wpList_store_row rfl _ _ _ rfl w.heap.size X rfl rfl _ _ HA.out.tk.box tkX tkX6 HA.out.one ?_)
    (try simp only [Exit.inBlock, Exit.then])
    exact bodyPost_ret (HA.out.ret _ _ rfl _ rfl) rfl (by unfold takeFirstP; rw [h1]; exact HA.out.fin)
  · go_upto_region 5 with fail
    have HT3 := Lib.hid (HT2.out.put (t := {s with pl := 4, mr := c}) 3 (.int .u8 (c : Int)) rfl (HT2.out.prs.ok.to rfl rfl rfl))
    generalize w3.setCell ⟨g, 3, none⟩ (.int .u8 (c : Int)) = w4 at *
    clear HT2 q3 f3
    have HA := Lib.hid (TkA.zero HT3.out)
    go_wp2_with (refine wpList_store_row rfl _ _ _ rfl w.heap.size zTok rfl rfl _ _ HA.out.tk.box tkS6 rfl zTok_one ?_)
    (try simp only [Exit.inBlock, Exit.then])
    exact bodyPost_ret (HA.out.ret _ _ rfl _ rfl) rfl (by unfold takeFirstP; rw [h1]; exact HA.out.fin)
set_option maxRecDepth 100000 in
set_option maxHeartbeats 8000000 in
theorem takeEscInters_any (g : Nat) (s : Ps) (c : Nat) (w : World) (h : PsB w g s) :
    Calls Tryd.prog 68 #[.pointer (some ⟨g, 0, none⟩), .int .u8 (c : Int)] w (TkQ w g (takeEscIntersP s c)) := by
  have HT := Lib.hid (TkW.start h)
  have HC := Lib.hid (fun W (h : PsB W g s) => takeCode_any g s c W h)
  have HI := Lib.hid (fun (hc : 32 ≤ c ∧ c ≤ 47) W (h : PsB W g {s with pl := 2}) => takeInter_any g {s with pl := 2} c hc W h)
  clear h
  unfold zTok at HT
  go_enter Tryd.func68, Tryd.ntmps68
  go_upto_region 1 with fail
  generalize w.alloc (.cells #[.int .i64 0, .int .u8 0, .int .u8 0, .slice none 0 0, .string ⟨#[]⟩, .slice none 0 0] 29) = w1 at *
  have q0 := HT.out.prs.at_ 0 _ rfl
  have f0 := HT.out.prs.blk.frozen 0
  go_wp2_with fail
  refine (pInter_any c _).mono ?_
  rintro e w3 ⟨rfl, rfl⟩
  rcases h1 : pInter c with _ | _
  · clear q0 f0
    go_upto_region 2 with fail
    go_wp2_with fail
    refine (HC.out _ HT.out.prs).mono ?_
    intro e w2 hq
    obtain ⟨X, rfl, ha⟩ := hq.open HT.out
    have HA := Lib.hid ha
    clear ha hq
    have tkX : (Tryd.prog.info? 29).map (·.size) = some X.size := by rw [HA.out.six]; exact tkS6
    have tkX6 : zTok.size = X.size := by rw [HA.out.six]; rfl
    go_wp2_with (refine wpList_store_row rfl _ _ _ rfl w.heap.size X rfl rfl _ _ HA.out.tk.box tkX tkX6 HA.out.one ?_)
    (try simp only [Exit.inBlock, Exit.then])
    exact bodyPost_ret (HA.out.ret _ _ rfl _ rfl) rfl (by unfold takeEscIntersP; rw [h1]; exact HA.out.fin)
  · have hcc : 32 ≤ c ∧ c ≤ 47 := by simpa [pInter] using h1
    go_upto_region 4 with fail
    have HT3 := Lib.hid (HT.out.put (t := {s with pl := 2}) 0 (.int .i64 2) rfl (HT.out.prs.ok.to rfl rfl rfl))
    generalize w3.setCell ⟨g, 0, none⟩ (.int .i64 2) = w4 at *
    clear HT q0 f0
    go_wp2_with fail
    refine (HI.out hcc _ HT3.out.prs).mono ?_
    rintro e w5 ⟨rfl, hp, hg⟩
    have HT5 := Lib.hid (HT3.out.call hp hg)
    clear hp hg HT3
    have HA := Lib.hid (TkA.zero HT5.out)
    go_wp2_with (refine wpList_store_row rfl _ _ _ rfl w.heap.size zTok rfl rfl _ _ HA.out.tk.box tkS6 rfl zTok_one ?_)
    (try simp only [Exit.inBlock, Exit.then])
    exact bodyPost_ret (HA.out.ret _ _ rfl _ rfl) rfl (by unfold takeEscIntersP; rw [h1]; exact HA.out.fin)
set_option maxRecDepth 100000 in
set_option maxHeartbeats 8000000 in
theorem takeEscaped_any (g : Nat) (s : Ps) (c : Nat) (w : World) (h : PsB w g s) :
    Calls Tryd.prog 67 #[.pointer (some ⟨g, 0, none⟩), .int .u8 (c : Int)] w (TkQ w g (takeEscapedP s c)) := by
  have HT := Lib.hid (TkW.start h)
  have HC := Lib.hid (fun W (h : PsB W g s) => takeEscInters_any g s c W h)
  have HR := Lib.hid (fun W (h : PsB W g s) => reset_any g s W h)
  have HG := Lib.hid (fun k p W (h : PsB W g s) => goOn_any g s k p W h)
  clear h
  unfold zTok at HT
  go_enter Tryd.func67, Tryd.ntmps67
  go_upto_region 1 with fail
  generalize w.alloc (.cells #[.int .i64 0, .int .u8 0, .int .u8 0, .slice none 0 0, .string ⟨#[]⟩, .slice none 0 0] 29) = w1 at *
  by_cases h91 : c = 91
  · subst h91
    go_wp2_with fail
    refine (HG.out 4 3 _ HT.out.prs).mono ?_
    rintro e w5 ⟨rfl, hp, hg⟩
    have HT5 := Lib.hid (HT.out.call hp hg)
    clear hp hg HT
    have HA := Lib.hid (TkA.zero HT5.out)
    go_wp2_with (refine wpList_store_row rfl _ _ _ rfl w.heap.size zTok rfl rfl _ _ HA.out.tk.box tkS6 rfl zTok_one ?_)
    (try simp only [Exit.inBlock, Exit.then])
    exact bodyPost_ret (HA.out.ret _ _ rfl _ rfl) rfl (by unfold takeEscapedP; simp only [reduceIte]; (try simp); exact HA.out.fin)
  have n91 : ((c : Int) == 91) = false := by simp; omega
  by_cases h80 : c = 80
  · subst h80
    go_wp2_with fail
    refine (HG.out 5 3 _ HT.out.prs).mono ?_
    rintro e w5 ⟨rfl, hp, hg⟩
    have HT5 := Lib.hid (HT.out.call hp hg)
    clear hp hg HT
    have HA := Lib.hid (TkA.zero HT5.out)
    go_wp2_with (refine wpList_store_row rfl _ _ _ rfl w.heap.size zTok rfl rfl _ _ HA.out.tk.box tkS6 rfl zTok_one ?_)
    (try simp only [Exit.inBlock, Exit.then])
    exact bodyPost_ret (HA.out.ret _ _ rfl _ rfl) rfl (by unfold takeEscapedP; simp only [reduceIte]; (try simp); exact HA.out.fin)
  have n80 : ((c : Int) == 80) = false := by simp; omega
  by_cases h93 : c = 93
  · subst h93
    go_wp2_with fail
    refine (HG.out 6 6 _ HT.out.prs).mono ?_
    rintro e w5 ⟨rfl, hp, hg⟩
    have HT5 := Lib.hid (HT.out.call hp hg)
    clear hp hg HT
    have HA := Lib.hid (TkA.zero HT5.out)
    go_wp2_with (refine wpList_store_row rfl _ _ _ rfl w.heap.size zTok rfl rfl _ _ HA.out.tk.box tkS6 rfl zTok_one ?_)
    (try simp only [Exit.inBlock, Exit.then])
    exact bodyPost_ret (HA.out.ret _ _ rfl _ rfl) rfl (by unfold takeEscapedP; simp only [reduceIte]; (try simp); exact HA.out.fin)
  have n93 : ((c : Int) == 93) = false := by simp; omega
  by_cases h88 : c = 88
  · subst h88
    go_wp2_with fail
    refine (HG.out 7 6 _ HT.out.prs).mono ?_
    rintro e w5 ⟨rfl, hp, hg⟩
    have HT5 := Lib.hid (HT.out.call hp hg)
    clear hp hg HT
    have HA := Lib.hid (TkA.zero HT5.out)
    go_wp2_with (refine wpList_store_row rfl _ _ _ rfl w.heap.size zTok rfl rfl _ _ HA.out.tk.box tkS6 rfl zTok_one ?_)
    (try simp only [Exit.inBlock, Exit.then])
    exact bodyPost_ret (HA.out.ret _ _ rfl _ rfl) rfl (by unfold takeEscapedP; simp only [reduceIte]; (try simp); exact HA.out.fin)
  have n88 : ((c : Int) == 88) = false := by simp; omega
  by_cases h94 : c = 94
  · subst h94
    go_wp2_with fail
    refine (HG.out 8 6 _ HT.out.prs).mono ?_
    rintro e w5 ⟨rfl, hp, hg⟩
    have HT5 := Lib.hid (HT.out.call hp hg)
    clear hp hg HT
    have HA := Lib.hid (TkA.zero HT5.out)
    go_wp2_with (refine wpList_store_row rfl _ _ _ rfl w.heap.size zTok rfl rfl _ _ HA.out.tk.box tkS6 rfl zTok_one ?_)
    (try simp only [Exit.inBlock, Exit.then])
    exact bodyPost_ret (HA.out.ret _ _ rfl _ rfl) rfl (by unfold takeEscapedP; simp only [reduceIte]; (try simp); exact HA.out.fin)
  have n94 : ((c : Int) == 94) = false := by simp; omega
  by_cases h95 : c = 95
  · subst h95
    go_wp2_with fail
    refine (HG.out 9 6 _ HT.out.prs).mono ?_
    rintro e w5 ⟨rfl, hp, hg⟩
    have HT5 := Lib.hid (HT.out.call hp hg)
    clear hp hg HT
    have HA := Lib.hid (TkA.zero HT5.out)
    go_wp2_with (refine wpList_store_row rfl _ _ _ rfl w.heap.size zTok rfl rfl _ _ HA.out.tk.box tkS6 rfl zTok_one ?_)
    (try simp only [Exit.inBlock, Exit.then])
    exact bodyPost_ret (HA.out.ret _ _ rfl _ rfl) rfl (by unfold takeEscapedP; simp only [reduceIte]; (try simp); exact HA.out.fin)
  have n95 : ((c : Int) == 95) = false := by simp; omega
  by_cases h92 : c = 92
  · subst h92
    go_wp2_with fail
    refine (HR.out _ HT.out.prs).mono ?_
    rintro e w5 ⟨rfl, hp, hg⟩
    have HT5 := Lib.hid (HT.out.call hp hg)
    clear hp hg HT
    have HA := Lib.hid (TkA.zero HT5.out)
    go_wp2_with (refine wpList_store_row rfl _ _ _ rfl w.heap.size zTok rfl rfl _ _ HA.out.tk.box tkS6 rfl zTok_one ?_)
    (try simp only [Exit.inBlock, Exit.then])
    exact bodyPost_ret (HA.out.ret _ _ rfl _ rfl) rfl (by unfold takeEscapedP; simp only [reduceIte]; (try simp); exact HA.out.fin)
  have n92 : ((c : Int) == 92) = false := by simp; omega
  go_upto_region 2 with fail
  go_wp2_with fail
  refine (HC.out _ HT.out.prs).mono ?_
  intro e w2 hq
  obtain ⟨X, rfl, ha⟩ := hq.open HT.out
  have HA := Lib.hid ha
  clear ha hq
  have tkX : (Tryd.prog.info? 29).map (·.size) = some X.size := by rw [HA.out.six]; exact tkS6
  have tkX6 : zTok.size = X.size := by rw [HA.out.six]; rfl
  go_wp2_with (refine wpList_store_row rfl _ _ _ rfl w.heap.size X rfl rfl _ _ HA.out.tk.box tkX tkX6 HA.out.one ?_)
  (try simp only [Exit.inBlock, Exit.then])
  exact bodyPost_ret (HA.out.ret _ _ rfl _ rfl) rfl (by unfold takeEscapedP; rw [if_neg h91, if_neg h80, if_neg h93, if_neg h88, if_neg h94, if_neg h95, if_neg h92]; exact HA.out.fin)
end Go.Proofs.YtpiliicphoacfaaDoor

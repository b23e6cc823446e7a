/-
  ParserBack holds, whatever the input: the card of the statement, with the library's three tables tied to the program's text.
-/
import Derived.Test.YtpiliicphoacfaaDoorCards
import Derived.Test.YtpiliicphoacfaaDoorTie
import Derived.Test.YtpiliicphoacfaaDoorFrameP
import Derived.Test.YtpiliicphoacfaaDoorPrfW
import Derived.Test.YtpiliicphoacfaaDoorFrameTk
namespace Go.Proofs.YtpiliicphoacfaaDoor.parserBack
open Go.ChangeShapes Go.WideShapes Go.ChangeAt Go.RowKit
open Go.ChangeMaps (open_string)

set_option maxRecDepth 100000 in
set_option maxHeartbeats 16000000 in
theorem walk (A : Option Addr) (cap : Nat) (l : List Tok) (_hm : l.length ≤ maxLen) (hT : ∀ t ∈ l, Tin t) (eight : Bool) (w : World) (ht : Ten w) (hri : RTs w A l) :
    Calls Tryd.prog 3 #[.slice A l.length cap, .bool eight] w fun e w' => e = .returned (.bool true) ∧ Below w.heap.size w w' := by
  have HAw := Lib.hid (prsAwake_any w)
  have HX := Lib.hid hri; have HT := Lib.hid ht; have HTi := Lib.hid hT
  have HTc : Hid (∀ t ∈ l, t.cd < 256 ∧ ∀ n ∈ t.dt, n < 256) := Lib.hid (fun t h => ⟨(hT t h).cd, (hT t h).by_⟩)
  clear hri ht hT
  obtain ⟨i1, hj0, hj1, hj2, hj3⟩ := info_u8
  have HJ := Lib.hid (And.intro hj0 (And.intro hj1 (And.intro hj2 hj3)))
  obtain ⟨i0, hi0, hi1, hi2, hi3⟩ := info_rtk
  have HI := Lib.hid (And.intro hi0 (And.intro hi1 (And.intro hi2 hi3)))
  clear hj0 hj1 hj2 hj3 hi0 hi1 hi2 hi3
  go_enter Tryd.func3, Tryd.ntmps3
  go_wp2_with fail
  refine HAw.out.mono ?_
  rintro e w1 ⟨rfl, hb⟩
  have HB1 := Lib.hid hb
  have HR1 := Lib.hid (HX.out.next hb)
  have HT1 := Lib.hid (HT.out.next hb)
  clear hb HAw HX HT
  --#1
  go_wp2_with fail
  go_loopw [5, 6, 7] (fun va vb j wr => ∃ k : Nat, k ≤ l.length ∧ k ≤ 20 ∧ j = .int .i64 k ∧ BkW w1 l eight k va vb wr) (fun _ _ j _ => l.length - (intOf j).toNat)
  case atStart => exact ⟨0, by omega, by omega, rfl, BkW.start w1 l eight⟩
  case round =>
    obtain ⟨k, hk, hk20, rfl, hbk⟩ := hrel
    have HBk := Lib.hid hbk
    clear hbk
    by_cases hlk : k < l.length
    · have k1 : ((k : Int) < (l.length : Int)) = True := eq_true (by omega)
      by_cases h20 : k < 20
      · --#2
        have k2 : ((k : Int) < 20) = True := eq_true (by omega)
        have hwk : IntKind.i64.wrap ((k : Int) + 1) = (k : Int) + 1 := IntWalk.i64_in _ (by omega)
        have k0 : (0 : Int) ≤ (k : Int) := by omega
        obtain ⟨ad, P, pc, D, dc, hA1, hP, hD, x⟩ := HR1.out.at_ hlk
        subst hA1
        have g1 : (ad.add (k * 6)).block < w1.heap.size := by rw [add_blk]; exact HR1.out.blt (by omega)
        have HX0 := Lib.hid (show Six w1 (ad.add (k * 6)) l[k].kd l[k].cd l[k].mr (.slice P l[k].ps.length pc) l[k].it (.slice D l[k].dt.length dc) from x)
        have HTk := Lib.hid (HTi.out l[k] (List.getElem_mem hlk))
        have HSk := Lib.hid (fun (ho : okB l[k] = false) va vb W (h : BkW w1 l eight k va vb W) => h.skip hlk ho)
        have HYs := Lib.hid (fun (ho : okB l[k] = true) => gsB_yes hlk ho eight)
        have HPs := Lib.hid (fun (ho : okB l[k] = true) n2 va vb vb' xs x2 X W W1 (h : BkM w1 l eight k va vb W) h1 h2 hX e2 z2 o2 g2 => BkM.push (n2 := n2) (vb' := vb') (xs := xs) (x2 := x2) (X := X) (W1 := W1) h hlk ho h1 h2 hX e2 z2 o2 g2)
        have HG1 := Lib.hid g1
        generalize l[k] = t at *
        obtain ⟨tk, tc, tm, tp, ti, td⟩ := t
        obtain ⟨hc, hmr, hp, hs, hd, hdb⟩ := HTk.out
        dsimp only at hc hmr hp hs hd hdb hP hD
        have HP := Lib.hid hP; have HD := Lib.hid hD
        have HOw := Lib.hid (fun W h1 h2 => lawOwn_any tk tc tm P tp pc ti D td dc (by omega) (by omega) W h1 h2)
        have HCk := Lib.hid (fun W h1 h2 => refCheck_any tk tc tm P tp pc ti D td dc (by unfold maxLen; omega) (by unfold maxLen; omega) (by unfold maxLen; omega) W h1 h2)
        rw [chk_same] at HCk
        have HBy := Lib.hid (fun P' pc' D' dc' (hpc : tp.length ≤ pc') W g1 g2 g3 => bytes_any tk tc tm P' tp pc' ti D' td dc' hc (by unfold maxLen; omega) (by unfold maxLen; omega) hpc (by unfold maxLen; omega) eight W g1 g2 g3)
        have HOk : Hid (okB ⟨tk, tc, tm, tp, ti, td⟩ = decide (checkP tk tc tm tp ti td = 0)) := Lib.hid rfl
        have HLb : Hid (checkP tk tc tm tp ti td = 0 → (bytesL tk tc tm tp ti td eight).length ≤ 4290) := Lib.hid (fun h => bys_len (t := ⟨tk, tc, tm, tp, ti, td⟩) ⟨hc, h, hdb⟩ eight)
        have HYb : Hid (okB ⟨tk, tc, tm, tp, ti, td⟩ = true → gsB l (k + 1) eight = gsB l k eight ++ bytesL tk tc tm tp ti td eight) := HYs
        have HLg := Lib.hid (gsB_len HTc.out k eight)
        have HLt := Lib.hid (gsT_len l k)
        unfold tkC at HOw HCk HBy
        clear x g1 hP hD hp hs hd hdb hc hmr HTk HYs
        obtain ⟨x0, x1, x2, x3, x4, x5⟩ := Six.next HX0.out HG1.out HBk.out.bel
        (try dsimp only at x0 x1 x2 x3 x4 x5)
        have HO0 := Lib.hid (HOw.out wr (HP.out.next HBk.out.bel) (HD.out.next HBk.out.bel))
        --#3
        go_upto_region 8 with fail
        --#4
        go_wp2_with fail
        refine HO0.out.mono ?_
        rintro e w3 ⟨⟨P', pc', D', dc', rfl, hpc, _, ho, hb⟩, hb3⟩
        have HB3 := Lib.hid (HBk.out.next hb3)
        have HC3 := Lib.hid (HBy.out P' pc' D' dc' hpc w3 (HT1.out.next HB3.out.bel) (OInts.reads ho) (OByt.reads hb))
        clear hpc ho hb hb3 HBk HO0 HOw HBy x0 x1 x2 x3 x4 x5
        unfold tkC
        --#5
        go_wp2_with fail
        refine HC3.out.mono ?_
        rintro e w4 ⟨hR, hb4⟩
        have HB4 := Lib.hid (HB3.out.next hb4)
        obtain ⟨x0, x1, x2, x3, x4, x5⟩ := Six.next HX0.out HG1.out HB4.out.bel
        (try dsimp only at x0 x1 x2 x3 x4 x5)
        have HC4 := Lib.hid (HCk.out w4 (HP.out.next HB4.out.bel) (HD.out.next HB4.out.bel))
        clear hb4 HB3 HC3
        by_cases hq : checkP tk tc tm tp ti td = 0
        · --#6
          obtain ⟨Aa, ca, rfl, hra, _⟩ := bytes_yes hR hq
          have ho : okB ⟨tk, tc, tm, tp, ti, td⟩ = true := by rw [HOk.out, decide_eq_true hq]
          have hs1 := HYb.out ho
          have hl1 := HLb.out hq
          rw [hq] at HC4
          have HRa := Lib.hid hra; have HS1 := Lib.hid hs1; have HOy := Lib.hid ho
          clear hR hq HSk HLb HYb HCk HOk hra hs1 ho
          generalize bytesL tk tc tm tp ti td eight = la at *
          --#7
          go_upto_region 9 with fail
          go_wp2_with fail
          refine HC4.out.mono ?_
          rintro e w5 ⟨rfl, hb5⟩
          have HB5 := Lib.hid (HB4.out.next hb5)
          have HR5 := Lib.hid (show Reads w5 w5.heap.size 1 Aa la.length (u8s la) from HRa.out.next hb5)
          have HM1 : Hid ((gsB l k eight).length + la.length ≤ maxLen) := Lib.hid (by have := HLg.out; unfold maxLen; omega)
          have HY1 : Hid (((gsB l k eight).length + la.length) * 1 ≤ 140737488355328) := Lib.hid (by have := HLg.out; omega)
          have HZ1 : Hid (w1.heap.size ≤ w5.heap.size) := Lib.hid HB5.out.bel.size
          clear x0 x1 x2 x3 x4 x5 hb5 HC4 HB4 HRa
          --#8
          go_upto_region 12 with fail
          --#9
          go_upto_region 13 with (at_builtin; refine wpList_append_any _ rfl _ _ 24 rfl w1.heap.size 5 i1 _ 1 1 Tryd.underlying24 HJ.out.1 HJ.out.2.1 HJ.out.2.2.1 HJ.out.2.2.2 rfl (by decide) _ (gsB l k eight).length _ rfl HB5.out.a _ Aa la.length ca _ rfl HR5.out (u8s_one _) HM1.out HY1.out HZ1.out ?_; intro v6 w6 hown6 hg6 _; have HM6 := Lib.hid (BkW.mid HB5.out (by rw [HS1.out, List.length_append]) (by rw [HS1.out, u8s_snoc] <;> rfl) hown6 hg6); clear hown6 hg6)
          obtain ⟨x0, x1, x2, x3, x4, x5⟩ := Six.next HX0.out HG1.out HM6.out.bel
          (try dsimp only at x0 x1 x2 x3 x4 x5)
          have hal : Below w6.heap.size w6 (w6.alloc (.cells #[.int .i64 tk, .int .u8 (tc : Int), .int .u8 (tm : Int), .slice P tp.length pc, .string ti, .slice D td.length dc] 31)) := (Below.refl _ _).alloc (Nat.le_refl _) _
          have HM7 := Lib.hid (HM6.out.next hal)
          have HX7 := Lib.hid (Blk.new w6 31 #[.int .i64 tk, .int .u8 (tc : Int), .int .u8 (tm : Int), .slice P tp.length pc, .string ti, .slice D td.length dc])
          have HRd : Hid (Reads (w6.alloc (.cells #[.int .i64 tk, .int .u8 (tc : Int), .int .u8 (tm : Int), .slice P tp.length pc, .string ti, .slice D td.length dc] 31)) (w6.alloc (.cells #[.int .i64 tk, .int .u8 (tc : Int), .int .u8 (tm : Int), .slice P tp.length pc, .string ti, .slice D td.length dc] 31)).heap.size 6 (some ⟨w6.heap.size, 0, none⟩) 1 [.int .i64 tk, .int .u8 (tc : Int), .int .u8 (tm : Int), .slice P tp.length pc, .string ti, .slice D td.length dc]) := Lib.hid ⟨rfl, fun _ => ⟨_, rfl, by simp, fun j u hu => by rw [add_here, HX7.out.cell j, List.getElem?_toArray]; exact hu⟩⟩
          obtain ⟨xs, hx1, hx2⟩ := HM7.out.b
          have HXa := Lib.hid hx1; have HXb := Lib.hid hx2
          have HX1 : Hid (∀ u ∈ [Value.int .i64 tk, .int .u8 (tc : Int), .int .u8 (tm : Int), .slice P tp.length pc, .string ti, .slice D td.length dc], u.oneCell' = true) := Lib.hid (fun u hu => by
            simp only [List.mem_cons, List.not_mem_nil, or_false] at hu
            rcases hu with rfl | rfl | rfl | rfl | rfl | rfl <;> rfl)
          have HBy2 : Hid (((gsT l k).length + 1) * i0.bytes ≤ 140737488355328) := Lib.hid (Nat.le_trans (Nat.mul_le_mul (show (gsT l k).length + 1 ≤ 1000 by have := HLt.out; omega) HI.out.2.2.2) (by decide))
          have HMx : Hid ((gsT l k).length + 1 ≤ maxLen) := Lib.hid (by have := HLt.out; unfold maxLen; omega)
          have HBs : Hid (w1.heap.size ≤ (w6.alloc (.cells #[.int .i64 tk, .int .u8 (tc : Int), .int .u8 (tm : Int), .slice P tp.length pc, .string ti, .slice D td.length dc] 31)).heap.size) := Lib.hid HM7.out.bel.size
          clear hal HM6 HX7 hx1 hx2 HM1 HY1 HZ1 HR5 HB5
          --#10
          go_wp2_with (at_builtin; refine wpList_append_any _ rfl _ _ 22 rfl w1.heap.size 31 i0 _ 6 i0.bytes Tryd.underlying22 HI.out.1 HI.out.2.1 HI.out.2.2.1 rfl rfl (by decide) _ (gsT l k).length _ rfl HXa.out _ (some ⟨w6.heap.size, 0, none⟩) 1 1 _ rfl HRd.out HX1.out HMx.out HBy2.out HBs.out ?_; intro v8 w8 hown8 hg8 _)
          have HW8 := Lib.hid (HPs.out HOy.out _ _ _ _ _ _ #[.int .i64 tk, .int .u8 (tc : Int), .int .u8 (tm : Int), .slice P tp.length pc, .string ti, .slice D td.length dc] _ _ HM7.out HXa.out HXb.out ⟨P, pc, D, dc, rfl, HP.out, HD.out⟩ rfl rfl hown8 hg8)
          clear hown8 hg8 x0 x1 x2 x3 x4 x5 HM7 HXa HXb HRd HX1 HBy2 HMx HBs HPs HOy HX0 HG1 HP HD
          --#11
          (try go_wp2_with fail)
          go_roundw
          case rel => exact ⟨k + 1, by omega, by omega, by go_num, HW8.out⟩
          case measure => simp [intOf]; omega
        · --#12
          rcases hR with ⟨_, rfl⟩ | ⟨h0, _⟩
          case inr => exact absurd h0 hq
          have ho : okB ⟨tk, tc, tm, tp, ti, td⟩ = false := by rw [HOk.out, decide_eq_false hq]
          have HOy := Lib.hid ho
          have q1 : (checkP tk tc tm tp ti td == 0) = false := beq_eq_false_iff_ne.2 hq
          clear HLb HYb HCk HOk ho hq HPs
          generalize checkP tk tc tm tp ti td = q at *
          have q2 : (q != q) = false := by simp
          --#13
          go_upto_region 9 with fail
          go_wp2_with fail
          refine HC4.out.mono ?_
          rintro e w5 ⟨rfl, hb5⟩
          have HB5 := Lib.hid (HSk.out HOy.out _ _ _ (HB4.out.next hb5))
          clear x0 x1 x2 x3 x4 x5 hb5 HC4 HB4 HSk
          --#14
          go_wp2_with fail
          go_roundw
          case rel => exact ⟨k + 1, by omega, by omega, by go_num, HB5.out⟩
          case measure => simp [intOf]; omega
      · --#15
        have k2 : ((k : Int) < 20) = False := eq_false (by omega)
        have HG := Lib.hid (gsT_can HTc.out k)
        have HF7 : Hid (feedL ps0 (gsB l k eight) = (ps0, gsT l k)) := Lib.hid (feed_toks eight (gsT l k) HG.out)
        have HL7 := Lib.hid (gsB_lt HTc.out k eight)
        have hn7 : (gsB l k eight).length ≤ 90000 := by have := gsB_len HTc.out k eight; omega
        have hnG : (gsT l k).length ≤ 20 := by have := gsT_len l k; omega
        have HSz : Hid (∀ t ∈ gsT l k, t.szs) := Lib.hid (fun t ht => can_szs (HG.out t ht))
        obtain ⟨ys, hy1, hy2⟩ := HBk.out.b
        have HA7 := Lib.hid HBk.out.a
        have HLo := Lib.hid HBk.out.bel
        clear HBk HG HTc HR1 HT1
        generalize gsB l k eight = s7 at *
        generalize gsT l k = G at *
        obtain ⟨A7, c7, rfl⟩ := own_formS HA7.out
        obtain ⟨A8, c8, rfl⟩ := own_formS hy1
        have HY1 := Lib.hid hy1; have HY2 := Lib.hid hy2
        clear hy1 hy2
        have HQ7 := Lib.hid (show RByt wr A7 s7 from Reads.of_own HA7.out)
        have hls : w1.heap.size ≤ wr.heap.size := HLo.out.size
        have hw1 : w.heap.size ≤ w1.heap.size := HB1.out.size
        have hal : Below wr.heap.size wr (wr.alloc (.cells ps0.cells.toArray 41)) := (Below.refl _ _).alloc (Nat.le_refl _) _
        have HAl := Lib.hid hal
        have HP5 := Lib.hid (ps_new wr)
        have HFe := Lib.hid (feed_any wr.heap.size ps0 R0 A7 c7 s7 HL7.out (by omega) (far_new HQ7.out (Nat.le_refl _)) _ HP5.out (HQ7.out.next hal))
        rw [HF7.out] at HFe
        have HY5 := Lib.hid (own_more HY1.out hal)
        have HL5 := Lib.hid (HLo.out.trans (hal.mono HLo.out.size))
        clear hal HA7 HQ7 HY1 HLo
        go_upto_region 14 with fail
        go_upto_region 15 with (refine wpList_alloc_ps rfl rfl ?_)
        generalize wr.alloc (.cells ps0.cells.toArray 41) = w5 at *
        generalize wr.heap.size = g at *
        --#a1
        go_wp2_with fail
        refine HFe.out.mono ?_
        rintro e w6 ⟨v6, rfl, hw6⟩
        have HP6 := Lib.hid hw6.prs
        have HL6 := Lib.hid (below_gb HL5.out hw6.gro (by omega) HL5.out.size)
        obtain ⟨A6, c6, rfl, hr6⟩ := hw6.tok.reads
        have hr8 : RTs w6 A8 G := ⟨ys, Reads.of_own (World.ownsRow.kept (row := some g) HY5.out hw6.gro (.inr (own_ty HY5.out HP5.out.blk (by decide)))), HY2.out.next HL6.out⟩
        have HAre := Lib.hid (are_any A6 c6 G A8 c8 G (by omega) HSz.out HSz.out w6 hr6 hr8)
        clear hw6 hr6 hr8 HFe HY5 HL5 HAl
        --#a2
        go_wp2_with fail
        refine HAre.out.mono ?_
        rintro e w7 ⟨⟨b, rfl, hbq⟩, hb7⟩
        obtain rfl : b = true := hbq.2 (areP_self G)
        have HL7b := Lib.hid (HL6.out.trans (hb7.mono HL6.out.size))
        have HI1 := Lib.hid (idle_any g ps0 w7 (HP6.out.next hb7))
        rw [show (ps0.pl == 0) = true from rfl] at HI1
        clear hbq hb7 HAre
        --#a3
        go_wp2_with fail
        refine HI1.out.mono ?_
        rintro e w7 ⟨rfl, rfl⟩
        go_wp2_with fail
        go_ret
        exact ⟨rfl, HB1.out.trans (HL7b.out.mono HB1.out.size)⟩
    · --#16
      have k1 : ((k : Int) < (l.length : Int)) = False := eq_false (by omega)
      have HG := Lib.hid (gsT_can HTc.out k)
      have HF7 : Hid (feedL ps0 (gsB l k eight) = (ps0, gsT l k)) := Lib.hid (feed_toks eight (gsT l k) HG.out)
      have HL7 := Lib.hid (gsB_lt HTc.out k eight)
      have hn7 : (gsB l k eight).length ≤ 90000 := by have := gsB_len HTc.out k eight; omega
      have hnG : (gsT l k).length ≤ 20 := by have := gsT_len l k; omega
      have HSz : Hid (∀ t ∈ gsT l k, t.szs) := Lib.hid (fun t ht => can_szs (HG.out t ht))
      obtain ⟨ys, hy1, hy2⟩ := HBk.out.b
      have HA7 := Lib.hid HBk.out.a
      have HLo := Lib.hid HBk.out.bel
      clear HBk HG HTc HR1 HT1
      generalize gsB l k eight = s7 at *
      generalize gsT l k = G at *
      obtain ⟨A7, c7, rfl⟩ := own_formS HA7.out
      obtain ⟨A8, c8, rfl⟩ := own_formS hy1
      have HY1 := Lib.hid hy1; have HY2 := Lib.hid hy2
      clear hy1 hy2
      have HQ7 := Lib.hid (show RByt wr A7 s7 from Reads.of_own HA7.out)
      have hls : w1.heap.size ≤ wr.heap.size := HLo.out.size
      have hw1 : w.heap.size ≤ w1.heap.size := HB1.out.size
      have hal : Below wr.heap.size wr (wr.alloc (.cells ps0.cells.toArray 41)) := (Below.refl _ _).alloc (Nat.le_refl _) _
      have HAl := Lib.hid hal
      have HP5 := Lib.hid (ps_new wr)
      have HFe := Lib.hid (feed_any wr.heap.size ps0 R0 A7 c7 s7 HL7.out (by omega) (far_new HQ7.out (Nat.le_refl _)) _ HP5.out (HQ7.out.next hal))
      rw [HF7.out] at HFe
      have HY5 := Lib.hid (own_more HY1.out hal)
      have HL5 := Lib.hid (HLo.out.trans (hal.mono HLo.out.size))
      clear hal HA7 HQ7 HY1 HLo
      go_upto_region 14 with fail
      go_upto_region 15 with (refine wpList_alloc_ps rfl rfl ?_)
      generalize wr.alloc (.cells ps0.cells.toArray 41) = w5 at *
      generalize wr.heap.size = g at *
      --#b1
      go_wp2_with fail
      refine HFe.out.mono ?_
      rintro e w6 ⟨v6, rfl, hw6⟩
      have HP6 := Lib.hid hw6.prs
      have HL6 := Lib.hid (below_gb HL5.out hw6.gro (by omega) HL5.out.size)
      obtain ⟨A6, c6, rfl, hr6⟩ := hw6.tok.reads
      have hr8 : RTs w6 A8 G := ⟨ys, Reads.of_own (World.ownsRow.kept (row := some g) HY5.out hw6.gro (.inr (own_ty HY5.out HP5.out.blk (by decide)))), HY2.out.next HL6.out⟩
      have HAre := Lib.hid (are_any A6 c6 G A8 c8 G (by omega) HSz.out HSz.out w6 hr6 hr8)
      clear hw6 hr6 hr8 HFe HY5 HL5 HAl
      --#b2
      go_wp2_with fail
      refine HAre.out.mono ?_
      rintro e w7 ⟨⟨b, rfl, hbq⟩, hb7⟩
      obtain rfl : b = true := hbq.2 (areP_self G)
      have HL7b := Lib.hid (HL6.out.trans (hb7.mono HL6.out.size))
      have HI1 := Lib.hid (idle_any g ps0 w7 (HP6.out.next hb7))
      rw [show (ps0.pl == 0) = true from rfl] at HI1
      clear hbq hb7 HAre
      --#b3
      go_wp2_with fail
      refine HI1.out.mono ?_
      rintro e w7 ⟨rfl, rfl⟩
      go_wp2_with fail
      go_ret
      exact ⟨rfl, HB1.out.trans (HL7b.out.mono HB1.out.size)⟩

set_option maxRecDepth 100000 in
/-- What the walk gives, for every argument and every world that holds the table. -/
theorem contract (H : Type) (enc : TypeId × Value → H) (W : World) (base : Nat) (args : Array Value) (ds gs : List (DataW H)) (before : List MemPlace)
    (hval : ∀ (j : Nat) t v, Tryd.f3.params[j]? = some t → args[j]? = some v → Value.okWide Tryd.prog W .any base t v)
    (hW : DataW.Whole enc Tryd.prog Tryd.f3.params.toList Rows.parserBackSpec.vars false W args.toList ds gs before) (hL : laidMetH Tryd.prog Rows.parserBackRow.laid W)
    (hreach : (DataW.weightsEach Tryd.prog (Tryd.f3.params.toList ++ []) (ds ++ gs)).all (· ≤ reachBytes) = true) :
    Calls Tryd.prog 3 args W fun e W' => ∃ v, e = .returned v ∧ Rows.parserBackSpec.post enc Tryd.prog Tryd.f3 false true false false W args v W' := by
  have hW' := hW
  have ht := ten_of hL
  have hlts : ∀ x ∈ before, x.block < W.heap.size := fun x hx => hW'.lt x hx
  obtain ⟨p, q, hA0, hV, rfl, hfz, hnd⟩ := hW
  have hA : DataW.TrodAll enc Tryd.prog W 0 (fun _ => true) true Tryd.f3.params.toList args.toList ds p := hA0
  rw [Tryd.params3] at hA hval hreach
  obtain ⟨v0, vs0, d0, ds0, pp0, qq0, hargs, rfl, rfl, h0, rr0⟩ := trodAll_cons hA
  obtain ⟨v1, vs1, d1, ds1, pp1, qq1, rfl, rfl, rfl, h1, rr1⟩ := trodAll_cons rr0
  obtain ⟨rfl, rfl, rfl⟩ := trodAll_nil rr1
  obtain rfl : args = #[v0, v1] := by cases args; simp_all
  obtain ⟨rfl, rfl⟩ := trodVars_none hV
  obtain ⟨b0, len0, cap0, rfl⟩ := okWide_slice Tryd.underlying22 (hval 0 22 v0 rfl rfl)
  obtain ⟨l0, hlen0, hm0, hok0, hri0⟩ := toks_in h0 (by rw [List.all_eq_true]; exact fun n hn => List.all_eq_true.1 hreach n (DataW.weights_mem_each (j := 0) rfl rfl n hn))
  subst hlen0
  obtain ⟨a1, rfl, rfl, rfl⟩ := open_bool Tryd.underlying4 (hval 1 4 v1 rfl rfl) h1
  clear hA0
  refine (walk b0 cap0 l0 hm0 hok0 a1 W ht hri0).mono fun e W' ⟨he, hb⟩ => ?_
  subst he
  exact ⟨_, rfl, post_law laidOut (by kernel_rfl) (by kernel_rfl) rfl hW' rfl hb⟩

set_option maxRecDepth 100000 in
theorem laid_met (os : Os) : laidMet Tryd.prog Rows.parserBackRow.laid ((laidWorld os).forCall (fun _ _ => 0) ⟨#[], #[Value.slice none 0 0, Value.bool false], []⟩).memory :=
  laidMet_of_run' 8 (by kernel_rfl) (by kernel_rfl)
set_option maxRecDepth 100000 in
theorem reads (os : Os) {H : Type} (enc : TypeId × Value → H) : ∃ places, DataW.whole enc Tryd.prog ((laidWorld os).forCall (fun _ _ => 0) ⟨#[], #[Value.slice none 0 0, Value.bool false], []⟩).memory Tryd.f3.params.toList Rows.parserBackSpec.vars false (#[Value.slice none 0 0, Value.bool false] : Array Value).toList 8 = some ([.nil, .lit (.bool false)], [], places) :=
  ⟨[], by kernel_rfl⟩

set_option maxRecDepth 100000 in
theorem lifted (os : Os) (started : os.Started) (H : Type) (enc : TypeId × Value → H) (F : Stop.Interp) :
    ReturnsInHanded {} Tryd.checked os 3 .any ((OpenSpec.ofChange Rows.parserBackSpec).preRow enc Tryd.prog Tryd.f3 Rows.parserBackRow.domain false Rows.parserBackRow.laid) (((OpenSpec.ofChange Rows.parserBackSpec).at F).post enc Tryd.prog Tryd.f3 false true false false) := by
  obtain ⟨places, hx⟩ := reads os enc
  refine returnsInHanded_of_row (C := Tryd.checked) (s := OpenSpec.ofChange Rows.parserBackSpec) own started (by kernel_rfl) Tryd.func3
    (witness_row_at (enc := enc) (C := Tryd.checked) false (laidWorld os) #[Value.slice none 0 0, Value.bool false] rfl (by kernel_rfl) (by kernel_rfl) (by kernel_rfl)
      (OpenSpec.preRow_of_cond 8 hx (by kernel_rfl) (fun k hk => by cases hk) (by kernel_rfl) (laid_met os))) ?_
  intro W base args ds gs before hval hW _ _ hreach hL _ _
  exact contract H enc W base args ds gs before hval hW hL hreach

theorem said : Rows.ParserBackSaid :=
  OpenClaim.holds_of_cond 3 Tryd.f3 rfl rfl rfl rfl rfl rfl rfl ⟨rfl, rfl, rfl, rfl, rfl⟩ rfl rfl rfl rfl rfl (by kernel_rfl) Tryd.func3 (by kernel_rfl)
    (of_decide_eq_true (by kernel_rfl)) (by unfold Func.isWrapper; first | (rw [if_pos (by decide +kernel)]; kernel_rfl) | (rw [if_neg (by decide +kernel)]; exact ⟨rfl, rfl⟩))
    (fun os started H enc _ F => by rw [OpenClaim.pre_eq_preRow]; exact lifted os started H enc F)

theorem plain (f : FuncId) (fn : Func) (hf : Tryd.pinned.checked.prog.funcNamed "phosphor/phosphorlaw12.ParserBack" = some f) (hfn : Tryd.pinned.checked.prog.funcs[f]? = some fn) :
    false = Tryd.pinned.checked.prog.looks [] ∧ ∀ (j : Nat) t, fn.params[j]? = some t → Tryd.pinned.checked.prog.wantsStandIn t = false := by
  obtain rfl : f = 3 := Option.some.inj ((show Tryd.prog.funcNamed "phosphor/phosphorlaw12.ParserBack" = some 3 by kernel_rfl).symm.trans hf) |>.symm
  obtain rfl : fn = Tryd.f3 := (Option.some.inj (Tryd.func3.symm.trans hfn)).symm
  refine ⟨by kernel_rfl, fun j t ht => ?_⟩
  rw [Tryd.params3] at ht
  have hm : t ∈ [22, 4] := by simpa using Array.mem_of_getElem? ht
  have hall : ([22, 4].all fun u => !Tryd.prog.wantsStandIn u) = true := by kernel_rfl
  exact (show Tryd.prog.wantsStandIn t = false by simpa using List.all_eq_true.1 hall t hm)

/-- The card. -/
theorem card : Rows.ParserBackCardSaid :=
  Claim7.holds_tied_plain_at .later [] _ _ _ _ said (fun _ h => by cases h) (by kernel_rfl) (fun _ h => by cases h) parserBack_row_tie rfl ⟨rfl, rfl⟩ (by kernel_rfl) rfl plain (by kernel_rfl)
#print axioms card
end Go.Proofs.YtpiliicphoacfaaDoor.parserBack

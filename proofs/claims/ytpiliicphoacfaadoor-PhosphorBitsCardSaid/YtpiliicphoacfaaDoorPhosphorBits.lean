/-
  PhosphorBits holds, whatever the input: the card of the statement, with the library's three tables tied to the program's text.
-/
import Derived.Test.YtpiliicphoacfaaDoorCards
import Derived.Test.YtpiliicphoacfaaDoorTie
import Derived.Test.YtpiliicphoacfaaDoorFrameP
import Derived.Test.YtpiliicphoacfaaDoorPrfV
import Derived.Test.YtpiliicphoacfaaDoorFramePn
namespace Go.Proofs.YtpiliicphoacfaaDoor.phosphorBits
open Go.ChangeShapes Go.WideShapes Go.ChangeAt Go.RowKit
open Go.ChangeMaps (open_string)

set_option maxRecDepth 100000 in
set_option maxHeartbeats 16000000 in
theorem walk (A : Option Addr) (cap : Nat) (xs : List Nat) (_hm : xs.length ≤ maxLen) (hcap : xs.length ≤ cap) (hn : ∀ x ∈ xs, x < 256) (w : World) (ht : Ten w) (hrx : RByt w A xs) :
    Calls Tryd.prog 5 #[.slice A xs.length cap] w fun e w' => e = .returned (.bool true) ∧ Below w.heap.size w w' := by
  clear _hm
  have HX := Lib.hid hrx; have HN := Lib.hid hn; have HT := Lib.hid ht
  clear hrx hn ht
  obtain ⟨i1, hj0, hj1, hj2, hj3⟩ := info_u8
  have HJ := Lib.hid (And.intro hj0 (And.intro hj1 (And.intro hj2 hj3)))
  clear hj0 hj1 hj2 hj3
  go_enter Tryd.func5, Tryd.ntmps5
  by_cases hx : 2000 < xs.length
  case' pos =>
    have e1 : ((2000 : Int) < (xs.length : Int)) = True := eq_true (by omega)
    have e2 : ((2000 : Int) ≤ (cap : Int)) = True := eq_true (by omega)
    go_upto_region 3 with fail
    have hla : (xs.take 2000).length = 2000 := by rw [List.length_take]; omega
    rw [← hla]
    have hal : (xs.take 2000).length ≤ 2000 := by omega
    have HRa := Lib.hid (HX.out.takeP 2000)
    have HAb : Hid (∀ x ∈ xs.take 2000, x < 256) := Lib.hid (fun x h => HN.out x (List.mem_of_mem_take h))
    clear e1 e2 hla HX HN hx hcap
    generalize xs.take 2000 = ms at *
  case' neg =>
    have e1 : ((2000 : Int) < (xs.length : Int)) = False := eq_false (by omega)
    go_upto_region 3 with fail
    have hal : xs.length ≤ 2000 := by omega
    have HRa := HX
    have HAb := HN
    clear e1 HX HN hx hcap
    generalize xs = ms at *
  all_goals
    --#0
    have HS := Lib.hid (split_any A cap ms HAb.out (by omega) w HRa.out)
    have HSp := Lib.hid (fun W h => refSplitO_any A cap ms HAb.out (by omega) W h)
    have HSz := Lib.hid (szs_feed ms HAb.out)
    have HFf := Lib.hid (feedL_facts ps0 R0 ms)
    have HCan := Lib.hid (toks_can ms HAb.out)
    generalize feedL ps0 ms = r at *
    obtain ⟨st, ts⟩ := r
    dsimp only at *
    have hts : ts.length ≤ 2000 := by have := HFf.out.2; omega
    --#1
    go_wp2_with fail
    refine HS.out.mono ?_
    rintro e w1 ⟨v1, rfl, ho1, hb1⟩
    obtain ⟨A1, c1, rfl, _⟩ := ho1.reads
    have HO1 := Lib.hid ho1; have HB1 := Lib.hid hb1
    have HR1 := Lib.hid (HRa.out.next hb1)
    have HT1 := Lib.hid (HT.out.next hb1)
    clear ho1 hb1 HS HRa HT HFf
    --#2
    go_wp2_with fail
    go_loopw [3, 4, 23] (fun va vb j wr => ∃ k : Nat, k ≤ ts.length ∧ j = .int .i64 k ∧ BiW w1 ts k va vb wr) (fun _ _ j _ => ts.length - (intOf j).toNat)
    case atStart => exact ⟨0, by omega, rfl, BiW.start w1 ts⟩
    case round =>
      obtain ⟨k, hk, rfl, hbi⟩ := hrel
      have HBi := Lib.hid hbi
      clear hbi
      by_cases hlk : k < ts.length
      · --#3
        have hwk : IntKind.i64.wrap ((k : Int) + 1) = (k : Int) + 1 := IntWalk.i64_in _ (by omega)
        have k0 : (0 : Int) ≤ (k : Int) := by omega
        have k1 : ((k : Int) < (ts.length : Int)) = True := eq_true (by omega)
        obtain ⟨ad, P, pc, D, dc, hA1, hpc, hP, hD, x0, x1, x2, x3, x4, x5⟩ := (HO1.out.keep (row := none) (grown_below HBi.out.bel) (fun k hk => by cases hk)).at_ hlk
        subst hA1
        have HG := Lib.hid (HCan.out ts[k] (List.getElem_mem hlk))
        have hs1 := bsL_succ hlk false
        have hs2 := bsL_succ hlk true
        have hL1 := bsL_len HCan.out (k + 1) false
        have hL2 := bsL_len HCan.out (k + 1) true
        generalize ts[k] = t at *
        obtain ⟨tk, tc, tm, tp, ti, td⟩ := t
        dsimp only at x0 x1 x2 x3 x4 x5 hpc hP hD
        change bsL ts (k + 1) false = bsL ts k false ++ bytesL tk tc tm tp ti td false at hs1
        change bsL ts (k + 1) true = bsL ts k true ++ bytesL tk tc tm tp ti td true at hs2
        have HS1 := Lib.hid hs1; have HS2 := Lib.hid hs2
        have HL1 : Hid ((bsL ts k false).length + (bytesL tk tc tm tp ti td false).length ≤ 8580000) := Lib.hid (by rw [hs1, List.length_append] at hL1; omega)
        have HL2 : Hid ((bsL ts k true).length + (bytesL tk tc tm tp ti td true).length ≤ 8580000) := Lib.hid (by rw [hs2, List.length_append] at hL2; omega)
        obtain ⟨hc, hq, hd⟩ := HG.out
        dsimp only at hc hq hd
        obtain ⟨_, _, hz3, hz30, hz4, _⟩ := check_zero hq
        have HQ := Lib.hid hq
        have hal : Below wr.heap.size wr (wr.alloc (.cells #[.int .i64 tk, .int .u8 (tc : Int), .int .u8 (tm : Int), .slice P tp.length pc, .string ti, .slice D td.length dc] 29)) := (Below.refl _ _).alloc (Nat.le_refl _) _
        have HBn := Lib.hid (HBi.out.next hal)
        have HXn := Lib.hid (Blk.new wr 29 #[.int .i64 tk, .int .u8 (tc : Int), .int .u8 (tm : Int), .slice P tp.length pc, .string ti, .slice D td.length dc])
        have HTn := Lib.hid (HT1.out.next HBn.out.bel)
        have HPn := Lib.hid (hP.next hal)
        have HDn := Lib.hid (hD.next hal)
        have HBy := Lib.hid (fun eight W g1 g2 g3 => bytes_any tk tc tm P tp pc ti D td dc hc (by unfold maxLen; omega) (by unfold maxLen; omega) hpc (by unfold maxLen; omega) eight W g1 g2 g3)
        unfold tkC at HBy
        clear hs1 hs2 hL1 hL2 hP hD hal HG hc hq hd hz3 hz30 hz4 hpc
        --#4
        go_upto_region 7 with fail
        generalize wr.alloc (.cells #[.int .i64 tk, .int .u8 (tc : Int), .int .u8 (tm : Int), .slice P tp.length pc, .string ti, .slice D td.length dc] 29) = wa at *
        generalize wr.heap.size = gt at *
        clear x0 x1 x2 x3 x4 x5 HBi
        have HC1 := Lib.hid (HBy.out false wa HTn.out HPn.out HDn.out)
        --#5
        go_wp2_with (refine wpList_load_row rfl _ _ rfl gt rfl _ _ (0, 0) _ HXn.out tkU rfl tkS6 ?_)
        refine HC1.out.mono ?_
        rintro e wb ⟨hR, hbb⟩
        obtain ⟨Aa, ca, rfl, hra, _⟩ := bytes_yes hR HQ.out
        have HBb := Lib.hid (HBn.out.next hbb)
        have HXb := Lib.hid (HXn.out.next hbb)
        have HRa := Lib.hid hra
        have HC2 := Lib.hid (HBy.out true wb (HTn.out.next hbb) (HPn.out.next hbb) (HDn.out.next hbb))
        have hab : wa.heap.size ≤ wb.heap.size := hbb.size
        clear hR hbb hra HC1 HXn HTn HPn HDn HBy
        generalize bytesL tk tc tm tp ti td false = la at *
        --#6
        go_wp2_with (refine wpList_load_row rfl _ _ rfl gt rfl _ _ (0, 0) _ HXb.out tkU rfl tkS6 ?_)
        refine HC2.out.mono ?_
        rintro e wc ⟨hR, hbc⟩
        obtain ⟨Ab, cb, rfl, hrb, hbk⟩ := bytes_yes hR HQ.out
        have HBc := Lib.hid (HBb.out.next hbc)
        have HRa2 := Lib.hid (HRa.out.next hbc)
        have HRb := Lib.hid hrb; have HBk := Lib.hid hbk
        have HLt := Lib.hid (World.ownsRow.lt HBn.out.a)
        clear hR hbc hrb hbk HC2 HXb HRa HBb HBn HQ
        generalize bytesL tk tc tm tp ti td true = lb at *
        have HM1 : Hid ((bsL ts k false).length + la.length ≤ maxLen) := Lib.hid (by have := HL1.out; unfold maxLen; omega)
        have HM2 : Hid ((bsL ts k true).length + lb.length ≤ maxLen) := Lib.hid (by have := HL2.out; unfold maxLen; omega)
        have HY1 : Hid (((bsL ts k false).length + la.length) * 1 ≤ 140737488355328) := Lib.hid (by have := HL1.out; omega)
        have HY2 : Hid (((bsL ts k true).length + lb.length) * 1 ≤ 140737488355328) := Lib.hid (by have := HL2.out; omega)
        have HZ1 : Hid (w1.heap.size ≤ wc.heap.size) := Lib.hid HBc.out.bel.size
        --#7
        go_upto_region 11 with fail
        --#8
        go_wp2_with (first
          | (at_builtin; refine wpList_append_any _ rfl _ _ 24 rfl w1.heap.size 5 i1 _ 1 1 Tryd.underlying24 HJ.out.1 HJ.out.2.1 HJ.out.2.2.1 HJ.out.2.2.2 rfl (by decide) _ (bsL ts k false).length _ rfl HBc.out.a _ Aa la.length ca _ rfl HRa2.out (u8s_one _) HM1.out HY1.out HZ1.out ?_; intro v4 w4 hown4 hg4 hl4; have HO4 := Lib.hid hown4; have HG4 := Lib.hid hg4; have HK4 := Lib.hid hl4; have HRb4 := Lib.hid (show Reads w4 w4.heap.size 1 Ab lb.length (u8s lb) from rbyt_row HRb.out hg4 (fun ad h0 e e2 => by have := HBk.out ad h0 e; have := (HLt.out _ e2).2; omega)); have HZ4 : Hid (w1.heap.size ≤ w4.heap.size) := Lib.hid (Nat.le_trans HZ1.out hg4.size); clear hown4 hg4 hl4)
          | (at_builtin; refine wpList_append_any _ rfl _ _ 24 rfl w1.heap.size 5 i1 _ 1 1 Tryd.underlying24 HJ.out.1 HJ.out.2.1 HJ.out.2.2.1 HJ.out.2.2.2 rfl (by decide) _ (bsL ts k true).length _ rfl (HBc.out.mid HG4.out) _ Ab lb.length cb _ rfl HRb4.out (u8s_one _) HM2.out HY2.out HZ4.out ?_; intro v5 w5 hown5 hg5 hl5; have HO5 := Lib.hid hown5; have HG5 := Lib.hid hg5; have HK5 := Lib.hid hl5; clear hown5 hg5 hl5))
        --#9
        go_roundw
        case rel => exact ⟨k + 1, by omega, by go_num, BiW.push HBc.out (by rw [HS1.out, List.length_append]) (by rw [HS2.out, List.length_append]) (by rw [HS1.out, u8s_snoc] <;> rfl) (by rw [HS2.out, u8s_snoc] <;> rfl) HO4.out HG4.out HK4.out HO5.out HG5.out HK5.out⟩
        case measure => simp [intOf]; omega
      · --#10
        obtain rfl : k = ts.length := by omega
        have k1 : ((ts.length : Int) < (ts.length : Int)) = False := eq_false (by omega)
        have HF7 : Hid (feedL ps0 (bsL ts ts.length false) = (ps0, ts)) := Lib.hid (by rw [bsL_all]; exact feed_toks false ts HCan.out)
        have HF8 : Hid (feedL ps0 (bsL ts ts.length true) = (ps0, ts)) := Lib.hid (by rw [bsL_all]; exact feed_toks true ts HCan.out)
        have HL7 := Lib.hid (bsL_lt HCan.out ts.length false); have HL8 := Lib.hid (bsL_lt HCan.out ts.length true)
        have hn7 : (bsL ts ts.length false).length ≤ 8580000 := by have := bsL_len HCan.out ts.length false; omega
        have hn8 : (bsL ts ts.length true).length ≤ 8580000 := by have := bsL_len HCan.out ts.length true; omega
        have hle : (bsL ts ts.length true).length ≤ (bsL ts ts.length false).length := by rw [bsL_all, bsL_all]; exact toks_le ts
        have HA7 := Lib.hid HBi.out.a; have HA8 := Lib.hid HBi.out.b
        have HW0 := Lib.hid (HB1.out.trans (HBi.out.bel.mono HB1.out.size))
        have HR2 := Lib.hid (HR1.out.next HBi.out.bel)
        clear HBi HO1 HB1 HR1 HT1 HCan hk hlk
        generalize bsL ts ts.length false = s7 at *
        generalize bsL ts ts.length true = s8 at *
        obtain ⟨A7, c7, rfl⟩ := own_formS HA7.out
        obtain ⟨A8, c8, rfl⟩ := own_formS HA8.out
        have HQ7 := Lib.hid (show RByt wr A7 s7 from Reads.of_own HA7.out)
        have HQ8 := Lib.hid (show RByt wr A8 s8 from Reads.of_own HA8.out)
        have HSq := Lib.hid (HSp.out wr HR2.out)
        have hle2 : ((s8.length : Int) ≤ (s7.length : Int)) = True := eq_true (by omega)
        clear HA7 HA8 HSp HR2
        --#11
        go_wp2_with fail
        refine HSq.out.mono ?_
        rintro e w2 ⟨⟨A5, c5, rfl, ho5⟩, hb2⟩
        have HW2 := Lib.hid (HW0.out.trans (hb2.mono HW0.out.size))
        have HS7 := Lib.hid (HQ7.out.next hb2); have HS8 := Lib.hid (HQ8.out.next hb2)
        have HT5 := Lib.hid ho5
        have HFl7 := Lib.hid (rbyt_blk HQ7.out); have HFl8 := Lib.hid (rbyt_blk HQ8.out)
        have hs2 : wr.heap.size ≤ w2.heap.size := hb2.size
        clear ho5 hb2 HSq HW0 HQ7 HQ8
        --#12
        go_upto_region 14 with fail
        go_upto_region 15 with (refine wpList_alloc_ps rfl rfl ?_)
        have hz : (w2.alloc (.cells ps0.cells.toArray 41)).heap.size = w2.heap.size + 1 := by simp
        have HP5 : Hid (PsB ((w2.alloc (.cells ps0.cells.toArray 41)).alloc (.cells ps0.cells.toArray 41)) w2.heap.size ps0) := Lib.hid ((ps_new w2).next ((Below.refl _ _).alloc (Nat.le_refl _) _))
        have HQ5 : Hid (PsB ((w2.alloc (.cells ps0.cells.toArray 41)).alloc (.cells ps0.cells.toArray 41)) (w2.heap.size + 1) ps0) := Lib.hid (by have := ps_new (w2.alloc (.cells ps0.cells.toArray 41)); rw [hz] at this; exact this)
        have HB25 : Hid (Below w2.heap.size w2 ((w2.alloc (.cells ps0.cells.toArray 41)).alloc (.cells ps0.cells.toArray 41))) := Lib.hid ((((Below.refl _ w2).alloc (Nat.le_refl _) _)).alloc (by simp) _)
        have HZ5 : Hid (((w2.alloc (.cells ps0.cells.toArray 41)).alloc (.cells ps0.cells.toArray 41)).heap.size = w2.heap.size + 2) := Lib.hid (by simp)
        rw [hz]
        generalize (w2.alloc (.cells ps0.cells.toArray 41)).alloc (.cells ps0.cells.toArray 41) = w5 at *
        clear hz
        have hz5 : w5.heap.size = w2.heap.size + 2 := HZ5.out
        have HW5 := Lib.hid (HW2.out.trans (HB25.out.mono HW2.out.size))
        have HS7b := Lib.hid (HS7.out.next HB25.out); have HS8b := Lib.hid (HS8.out.next HB25.out)
        have HT5b := Lib.hid (HT5.out.next HB25.out)
        have hw2 : w.heap.size ≤ w2.heap.size := HW2.out.size
        have HFe := Lib.hid (feed_any w2.heap.size ps0 R0 A7 c7 s7 HL7.out (by omega) (fun ad h0 e => by have := HFl7.out ad h0 e; omega) w5 HP5.out HS7b.out)
        have HFq := Lib.hid (fun W hq hr => feed_any (w2.heap.size + 1) ps0 R0 A8 c8 s8 HL8.out (by omega) (fun ad h0 e => by have := HFl8.out ad h0 e; omega) W hq hr)
        rw [HF7.out] at HFe
        rw [HF8.out] at HFq
        generalize w2.heap.size = g at *
        clear HZ5 HB25 HS7 HS8 HT5 HW2 HS7b HF7 HF8
        --#13
        go_wp2_with fail
        refine HFe.out.mono ?_
        rintro e w6 ⟨v6, rfl, hw6⟩
        have HP6 := Lib.hid hw6.prs
        have HQ6 := Lib.hid (HQ5.out.other hw6.gro (by omega))
        have HR6 := Lib.hid (rbyt_row HS8b.out hw6.gro (fun ad h0 e e2 => by have := HFl8.out ad h0 e; injection e2 with e2; omega))
        have HW6 := Lib.hid (below_gb HW5.out hw6.gro (by omega) HW5.out.size)
        obtain ⟨A6, c6, rfl, hr6⟩ := hw6.tok.reads
        have HT6 := Lib.hid (HT5b.out.box HP5.out.blk hw6.gro)
        obtain ⟨A5', c5', e5, hr5⟩ := HT6.out.reads
        cases e5
        have HAre := Lib.hid (are_any A6 c6 ts A5 c5 ts (by omega) HSz.out HSz.out w6 hr6 hr5)
        clear hw6 hr6 hr5 HFe HP5 HQ5 HS8b HW5 HT5b
        --#14
        go_wp2_with fail
        refine HAre.out.mono ?_
        rintro e w7 ⟨⟨b, rfl, hbq⟩, hb7⟩
        obtain rfl : b = true := hbq.2 (areP_self ts)
        have HP7 := Lib.hid (HP6.out.next hb7); have HQ7 := Lib.hid (HQ6.out.next hb7)
        have HR7 := Lib.hid (HR6.out.next hb7); have HT7 := Lib.hid (HT6.out.next hb7)
        have HW7 := Lib.hid (HW6.out.trans (hb7.mono HW6.out.size))
        have HF7 := Lib.hid (HFq.out w7 HQ7.out HR7.out)
        clear hbq hb7 HAre HP6 HQ6 HR6 HT6 HW6 HFq
        --#15
        go_wp2_with fail
        refine HF7.out.mono ?_
        rintro e w8 ⟨v8, rfl, hw8⟩
        have HP8 := Lib.hid (HP7.out.other hw8.gro (by omega))
        have HQ8 := Lib.hid hw8.prs
        have HW8 := Lib.hid (below_gb HW7.out hw8.gro (by omega) HW7.out.size)
        obtain ⟨A9, c9, rfl, hr9⟩ := hw8.tok.reads
        have HT8 := Lib.hid (HT7.out.box HQ7.out.blk hw8.gro)
        obtain ⟨A5', c5', e5, hr5⟩ := HT8.out.reads
        cases e5
        have HAre := Lib.hid (are_any A9 c9 ts A5 c5 ts (by omega) HSz.out HSz.out w8 hr9 hr5)
        clear hw8 hr9 hr5 HF7 HP7 HQ7 HR7 HT7 HW7
        --#16
        go_wp2_with fail
        refine HAre.out.mono ?_
        rintro e w9 ⟨⟨b, rfl, hbq⟩, hb9⟩
        obtain rfl : b = true := hbq.2 (areP_self ts)
        have HP9 := Lib.hid (HP8.out.next hb9); have HQ9 := Lib.hid (HQ8.out.next hb9)
        have HW9 := Lib.hid (HW8.out.trans (hb9.mono HW8.out.size))
        have HI1 := Lib.hid (idle_any g ps0 w9 HP9.out)
        have HI2 := Lib.hid (idle_any (g + 1) ps0 w9 HQ9.out)
        rw [show (ps0.pl == 0) = true from rfl] at HI1 HI2
        have HSm := Lib.hid (sameP_any g (g + 1) ps0 w9 HP9.out HQ9.out)
        clear hbq hb9 HAre HP8 HQ8 HT8 HW8
        --#17
        go_wp2_with fail
        refine HI1.out.mono ?_
        rintro e w9 ⟨rfl, rfl⟩
        go_wp2_with fail
        refine HI2.out.mono ?_
        rintro e w9 ⟨rfl, rfl⟩
        go_wp2_with fail
        refine HSm.out.mono ?_
        rintro e w10 ⟨rfl, hb10⟩
        have HW10 := Lib.hid (HW9.out.trans (hb10.mono HW9.out.size))
        --#18
        go_wp2_with fail
        go_ret
        exact ⟨rfl, HW10.out⟩

set_option maxRecDepth 100000 in
/-- What the walk gives, for every argument and every world that holds the table. -/
theorem contract (H : Type) (enc : TypeId × Value → H) (W : World) (base : Nat) (args : Array Value) (ds gs : List (DataW H)) (before : List MemPlace)
    (hval : ∀ (j : Nat) t v, Tryd.f5.params[j]? = some t → args[j]? = some v → Value.okWide Tryd.prog W .any base t v)
    (hW : DataW.Whole enc Tryd.prog Tryd.f5.params.toList Rows.phosphorBitsSpec.vars false W args.toList ds gs before) (hL : laidMetH Tryd.prog Rows.phosphorBitsRow.laid W)
    (hreach : (DataW.weightsEach Tryd.prog (Tryd.f5.params.toList ++ []) (ds ++ gs)).all (· ≤ reachBytes) = true) :
    Calls Tryd.prog 5 args W fun e W' => ∃ v, e = .returned v ∧ Rows.phosphorBitsSpec.post enc Tryd.prog Tryd.f5 false true false false W args v W' := by
  have hW' := hW
  have ht := ten_of hL
  have hlts : ∀ x ∈ before, x.block < W.heap.size := fun x hx => hW'.lt x hx
  obtain ⟨p, q, hA0, hV, rfl, hfz, hnd⟩ := hW
  have hA : DataW.TrodAll enc Tryd.prog W 0 (fun _ => true) true Tryd.f5.params.toList args.toList ds p := hA0
  rw [Tryd.params5] at hA hval hreach
  obtain ⟨v0, vs0, d0, ds0, pp0, qq0, hargs, rfl, rfl, h0, rr0⟩ := trodAll_cons hA
  obtain ⟨rfl, rfl, rfl⟩ := trodAll_nil rr0
  obtain rfl : args = #[v0] := by cases args; simp_all
  obtain ⟨rfl, rfl⟩ := trodVars_none hV
  obtain ⟨b0, len0, cap0, rfl⟩ := okWide_slice Tryd.underlying24 (hval 0 24 v0 rfl rfl)
  obtain ⟨l0, hlen0, hm0, hc0, ok0, hri0⟩ := bytes_inP h0
  subst hlen0
  clear hA0
  refine (walk b0 cap0 l0 hm0 hc0 ok0 W ht hri0).mono fun e W' ⟨he, hb⟩ => ?_
  subst he
  exact ⟨_, rfl, post_law laidOut (by kernel_rfl) (by kernel_rfl) rfl hW' rfl hb⟩

set_option maxRecDepth 100000 in
theorem laid_met (os : Os) : laidMet Tryd.prog Rows.phosphorBitsRow.laid ((laidWorld os).forCall (fun _ _ => 0) ⟨#[], #[Value.slice none 0 0], []⟩).memory :=
  laidMet_of_run' 8 (by kernel_rfl) (by kernel_rfl)
set_option maxRecDepth 100000 in
theorem reads (os : Os) {H : Type} (enc : TypeId × Value → H) : ∃ places, DataW.whole enc Tryd.prog ((laidWorld os).forCall (fun _ _ => 0) ⟨#[], #[Value.slice none 0 0], []⟩).memory Tryd.f5.params.toList Rows.phosphorBitsSpec.vars false (#[Value.slice none 0 0] : Array Value).toList 8 = some ([.nil], [], places) :=
  ⟨[], by kernel_rfl⟩

set_option maxRecDepth 100000 in
theorem lifted (os : Os) (started : os.Started) (H : Type) (enc : TypeId × Value → H) (F : Stop.Interp) :
    ReturnsInHanded {} Tryd.checked os 5 .any ((OpenSpec.ofChange Rows.phosphorBitsSpec).preRow enc Tryd.prog Tryd.f5 Rows.phosphorBitsRow.domain false Rows.phosphorBitsRow.laid) (((OpenSpec.ofChange Rows.phosphorBitsSpec).at F).post enc Tryd.prog Tryd.f5 false true false false) := by
  obtain ⟨places, hx⟩ := reads os enc
  refine returnsInHanded_of_row (C := Tryd.checked) (s := OpenSpec.ofChange Rows.phosphorBitsSpec) own started (by kernel_rfl) Tryd.func5
    (witness_row_at (enc := enc) (C := Tryd.checked) false (laidWorld os) #[Value.slice none 0 0] rfl (by kernel_rfl) (by kernel_rfl) (by kernel_rfl)
      (OpenSpec.preRow_of_cond 8 hx (by kernel_rfl) (fun k hk => by cases hk) (by kernel_rfl) (laid_met os))) ?_
  intro W base args ds gs before hval hW _ _ hreach hL _ _
  exact contract H enc W base args ds gs before hval hW hL hreach

theorem said : Rows.PhosphorBitsSaid :=
  OpenClaim.holds_of_cond 5 Tryd.f5 rfl rfl rfl rfl rfl rfl rfl ⟨rfl, rfl, rfl, rfl, rfl⟩ rfl rfl rfl rfl rfl (by kernel_rfl) Tryd.func5 (by kernel_rfl)
    (of_decide_eq_true (by kernel_rfl)) (by unfold Func.isWrapper; first | (rw [if_pos (by decide +kernel)]; kernel_rfl) | (rw [if_neg (by decide +kernel)]; exact ⟨rfl, rfl⟩))
    (fun os started H enc _ F => by rw [OpenClaim.pre_eq_preRow]; exact lifted os started H enc F)

theorem plain (f : FuncId) (fn : Func) (hf : Tryd.pinned.checked.prog.funcNamed "phosphor/phosphortop.PhosphorBits" = some f) (hfn : Tryd.pinned.checked.prog.funcs[f]? = some fn) :
    false = Tryd.pinned.checked.prog.looks [] ∧ ∀ (j : Nat) t, fn.params[j]? = some t → Tryd.pinned.checked.prog.wantsStandIn t = false := by
  obtain rfl : f = 5 := Option.some.inj ((show Tryd.prog.funcNamed "phosphor/phosphortop.PhosphorBits" = some 5 by kernel_rfl).symm.trans hf) |>.symm
  obtain rfl : fn = Tryd.f5 := (Option.some.inj (Tryd.func5.symm.trans hfn)).symm
  refine ⟨by kernel_rfl, fun j t ht => ?_⟩
  rw [Tryd.params5] at ht
  have hm : t ∈ [24] := by simpa using Array.mem_of_getElem? ht
  have hall : ([24].all fun u => !Tryd.prog.wantsStandIn u) = true := by kernel_rfl
  exact (show Tryd.prog.wantsStandIn t = false by simpa using List.all_eq_true.1 hall t hm)

/-- The card. -/
theorem card : Rows.PhosphorBitsCardSaid :=
  Claim7.holds_tied_plain_at .later [] _ _ _ _ said (fun _ h => by cases h) (by kernel_rfl) (fun _ h => by cases h) phosphorBits_row_tie rfl ⟨rfl, rfl⟩ (by kernel_rfl) rfl plain (by kernel_rfl)
#print axioms card
end Go.Proofs.YtpiliicphoacfaaDoor.phosphorBits

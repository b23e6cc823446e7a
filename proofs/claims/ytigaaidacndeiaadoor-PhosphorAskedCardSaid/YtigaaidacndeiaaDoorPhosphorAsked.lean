/-
  PhosphorAsked holds, whatever the input: the card of the statement, with the library's three tables and the modes' tied to the program's text.
-/
import Derived.Test.YtigaaidacndeiaaDoorCards
import Derived.Test.YtigaaidacndeiaaDoorTie
import Derived.Test.YtigaaidacndeiaaDoorFrameAs
import Derived.Test.YtigaaidacndeiaaDoorAskA
namespace Go.Proofs.YtigaaidacndeiaaDoor.phosphorAsked
open Go.ChangeShapes Go.WideShapes Go.ChangeAt Go.RowKit
open Go.ChangeMaps (open_string)

set_option maxRecDepth 100000 in
set_option maxHeartbeats 16000000 in
theorem walk (m : Nat) (hm : m < 2 ^ 32) (level : Int) (eight : Bool) (w : World) (ht : Mods w) (hs : Ten w) :
    Calls Tryd.prog 3 #[.int .u32 m, .int .i64 level, .bool eight] w fun e w' => e = .returned (.bool true) ∧ Below w.heap.size w w' := by
  have HM0 := Lib.hid ht; have HT0 := Lib.hid hs; have HM := Lib.hid hm
  have HHas := Lib.hid (fun (j : Int) W => has_any m hm j W)
  have HRM := Lib.hid (fun d n v W t => repMode_any eight d n v W t)
  clear ht hs hm
  go_enter Tryd.func3, Tryd.ntmps3
  --#0
  go_wp2_with fail
  go_loopw [7] (fun i wr => ∃ j : Nat, j ≤ 17 ∧ i = .int .i64 j ∧ Below w.heap.size w wr) (fun i _ => 17 - (intOf i).toNat)
  case atStart => exact ⟨0, by omega, rfl, Below.refl _ _⟩
  case round =>
    obtain ⟨j, hj, rfl, hbr⟩ := hrel
    have HBr := Lib.hid hbr
    have HMr := Lib.hid (HM0.out.next hbr); have HTr := Lib.hid (HT0.out.next hbr)
    clear hbr HM0 HT0
    by_cases hlj : j < 17
    · have k1 : ((j : Int) < 17) = True := eq_true (by omega)
      have hwj : IntKind.i64.wrap ((j : Int) + 1) = (j : Int) + 1 := IntWalk.i64_in _ (by omega)
      have HJ := Lib.hid hlj
      have HIs : Hid (isM (j : Int) = true) := Lib.hid ((isM_iff _).2 (by omega))
      have HNm : Hid (∀ W, Mods W → Calls Tryd.prog 4 #[.int .i64 j] W fun e w' => e = .returned (.tuple #[.bool (decP j), .int .i64 (numP j)]) ∧ Below W.heap.size W w') := Lib.hid (fun W t => by have q := modNum_any (j : Int) W t; rw [HIs.out, if_pos rfl, if_pos rfl, Int.toNat_natCast] at q; exact q)
      have HAsk := Lib.hid (fun W t => ask_any m HM.out (decP j) (numP j) level W t)
      have HFnd := Lib.hid (fun W t => mfind_any (decP j) (numP j) level W t)
      simp only [ask_own m j hlj level] at HAsk
      simp only [fin_own j hlj level] at HFnd
      have HN := Lib.hid (num_ok j hlj)
      clear hlj hj
      generalize decP j = d at *
      generalize numP j = n at *
      obtain ⟨mc, hmc⟩ : ∃ mc : Nat, (if d then 63 else 0) = mc := ⟨_, rfl⟩
      have hcd : ((mc : Int) == 63) = d := by rw [← hmc]; cases d <;> rfl
      --#1
      by_cases hl : frmP j ≤ level
      · rcases hh : hasN m j with _ | _
        · have hA : Hid (∀ W, Mods W → Calls Tryd.prog 5 #[.int .u32 m, .bool d, .int .i64 n, .int .i64 level] W fun e w' => e = .returned (.int .i64 2) ∧ Below W.heap.size W w') := Lib.hid (fun W t => by have q := HAsk.out W t; rw [if_pos hl, hh] at q; exact q)
          have hF : Hid (∀ W, Mods W → Calls Tryd.prog 8 #[.bool d, .int .i64 n, .int .i64 level] W fun e w' => e = .returned (.tuple #[.int .i64 (j : Int), .bool true]) ∧ Below W.heap.size W w') := Lib.hid (fun W t => by have q := HFnd.out W t; rw [if_pos hl] at q; simpa [finV, HJ.out] using q)
          have hR := Lib.hid (fun W t => HRM.out d n 2 W t)
          have hFe := Lib.hid (ask_read (n := n) (v := 2) HN.out (by decide) d eight)
          have HL := Lib.hid (rep_len 4 (if d then ⟨#[63, 36, 121]⟩ else ⟨#[36, 121]⟩) ⟨#[]⟩ [n, 2] eight)
          have HLt := Lib.hid (rep_lt 4 (if d then ⟨#[63, 36, 121]⟩ else ⟨#[36, 121]⟩) ⟨#[]⟩ [n, 2] eight)
          generalize repL 4 (if d then ⟨#[63, 36, 121]⟩ else ⟨#[36, 121]⟩) ⟨#[]⟩ [n, 2] eight = l at *
          have hHs : Hid (∀ W, Calls Tryd.prog 9 #[.int .u32 m, .int .i64 j] W fun e w' => e = .returned (.bool false) ∧ W = w') := Lib.hid (fun W => by have q := HHas.out (j : Int) W; rw [hh] at q; exact q)
          clear HAsk HFnd HRM HHas hl hh
          --#B1
          go_wp2_with fail
          refine (HNm.out _ HMr.out).mono ?_
          rintro e w1 ⟨rfl, hb1⟩
          have HB1 := Lib.hid hb1
          clear hb1 HNm
          --#B2
          go_wp2_with fail
          refine (hA.out _ (HMr.out.next HB1.out)).mono ?_
          rintro e w2 ⟨rfl, hb2⟩
          have HB2 := Lib.hid (HB1.out.trans (hb2.mono HB1.out.size))
          clear hb2 hA HB1
          --#B3
          go_wp2_with fail
          refine (hR.out _ (HTr.out.next HB2.out)).mono ?_
          rintro e w3 ⟨⟨v3, rfl, ho3⟩, hb3⟩
          obtain ⟨A3, c3, rfl⟩ := ho3.form
          have HB3 := Lib.hid (HB2.out.trans (hb3.mono HB2.out.size))
          have HSp := Lib.hid (split_any A3 c3 l HLt.out (by have := HL.out; omega) w3 ho3.reads)
          rw [hFe.out] at HSp
          dsimp only at HSp
          clear ho3 hb3 hR HB2 hFe HL HLt
          --#B4
          go_wp2_with fail
          refine HSp.out.mono ?_
          rintro e w4 ⟨v4, rfl, ho4, hb4⟩
          have HB4 := Lib.hid (HB3.out.trans (hb4.mono HB3.out.size))
          obtain ⟨A4, c4, rfl, _⟩ := ho4.reads
          obtain ⟨g, P, p, D, dd, hA4, hP, hx⟩ := one_tokR ho4
          subst hA4
          obtain ⟨P0, hP0, _, y0⟩ := hP.at_ (k := 0) (by simp [askT])
          obtain ⟨P1, hP1, _, y1⟩ := hP.at_ (k := 1) (by simp [askT])
          subst hP0
          cases hP1
          obtain ⟨x0, x1, x2, x3, x4, x5⟩ := hx
          (try dsimp only [askT] at x0 x1 x2 x3 x4 x5)
          rw [hmc] at x2
          simp only [askT, List.getElem_cons_zero, List.getElem_cons_succ] at y0 y1
          (try dsimp only at y0 y1)
          replace y0 : w4.cell? P0 = some (.int .i64 n) := y0
          replace y1 : w4.cell? ⟨P0.block, P0.off + 1, _⟩ = some _ := y1
          replace x3 : w4.cell? ⟨g, 3, none⟩ = some (.slice (some P0) 2 p) := x3
          have hwz0 : IntKind.i64.wrap 0 = 0 := by rfl
          have hwz1 : IntKind.i64.wrap 1 = 1 := by rfl
          clear ho4 hb4 HB3 HSp hP x1 x4 x5
          --#B5
          go_upto_region 9 with fail
          clear x0 x2 x3 y0 y1 hwz0 hwz1 hmc hcd
          --#B6
          go_wp2_with fail
          refine (hF.out _ (HMr.out.next HB4.out)).mono ?_
          rintro e w5 ⟨rfl, hb5⟩
          have HB5 := Lib.hid (HB4.out.trans (hb5.mono HB4.out.size))
          clear hb5 hF HB4
          --#B7
          go_wp2_with fail
          refine (hHs.out _).mono ?_
          rintro e w6 ⟨rfl, rfl⟩
          --#B8
          have HW0 := Lib.hid (fun W => with_any 0 (j : Int) true W)
          have HW1 := Lib.hid (fun W => with_any (withN 0 (j : Int) true) (j : Int) false W)
          have HH1 : Hid (∀ W, Calls Tryd.prog 9 #[.int .u32 (withN (withN 0 (j : Int) true) (j : Int) false : Nat), .int .i64 j] W fun e w' => e = .returned (.bool false) ∧ W = w') := Lib.hid (fun W => by have q := has_any (withN (withN 0 (j : Int) true) (j : Int) false) (withN_lt _ _ _) (j : Int) W; rw [hasN_with, if_pos ⟨rfl, HIs.out⟩] at q; exact q)
          generalize withN (withN 0 (j : Int) true) (j : Int) false = o2 at *
          generalize withN 0 (j : Int) true = o1 at *
          go_wp2_with fail
          refine (HW0.out _).mono ?_
          rintro e w6 ⟨rfl, rfl⟩
          --#B9
          go_wp2_with fail
          refine (HW1.out _).mono ?_
          rintro e w6 ⟨rfl, rfl⟩
          go_wp2_with fail
          refine (HH1.out _).mono ?_
          rintro e w6 ⟨rfl, rfl⟩
          go_wp2_with fail
          refine (hHs.out _).mono ?_
          rintro e w6 ⟨rfl, rfl⟩
          go_wp2_with fail
          --#B10
          go_roundw
          case rel => exact ⟨j + 1, by have := HJ.out; omega, by go_num, HBr.out.trans (HB5.out.mono HBr.out.size)⟩
          case measure => have := HJ.out; simp [intOf]; omega
        · have hA : Hid (∀ W, Mods W → Calls Tryd.prog 5 #[.int .u32 m, .bool d, .int .i64 n, .int .i64 level] W fun e w' => e = .returned (.int .i64 1) ∧ Below W.heap.size W w') := Lib.hid (fun W t => by have q := HAsk.out W t; rw [if_pos hl, hh] at q; exact q)
          have hF : Hid (∀ W, Mods W → Calls Tryd.prog 8 #[.bool d, .int .i64 n, .int .i64 level] W fun e w' => e = .returned (.tuple #[.int .i64 (j : Int), .bool true]) ∧ Below W.heap.size W w') := Lib.hid (fun W t => by have q := HFnd.out W t; rw [if_pos hl] at q; simpa [finV, HJ.out] using q)
          have hR := Lib.hid (fun W t => HRM.out d n 1 W t)
          have hFe := Lib.hid (ask_read (n := n) (v := 1) HN.out (by decide) d eight)
          have HL := Lib.hid (rep_len 4 (if d then ⟨#[63, 36, 121]⟩ else ⟨#[36, 121]⟩) ⟨#[]⟩ [n, 1] eight)
          have HLt := Lib.hid (rep_lt 4 (if d then ⟨#[63, 36, 121]⟩ else ⟨#[36, 121]⟩) ⟨#[]⟩ [n, 1] eight)
          generalize repL 4 (if d then ⟨#[63, 36, 121]⟩ else ⟨#[36, 121]⟩) ⟨#[]⟩ [n, 1] eight = l at *
          have hHs : Hid (∀ W, Calls Tryd.prog 9 #[.int .u32 m, .int .i64 j] W fun e w' => e = .returned (.bool true) ∧ W = w') := Lib.hid (fun W => by have q := HHas.out (j : Int) W; rw [hh] at q; exact q)
          clear HAsk HFnd HRM HHas hl hh
          --#C1
          go_wp2_with fail
          refine (HNm.out _ HMr.out).mono ?_
          rintro e w1 ⟨rfl, hb1⟩
          have HB1 := Lib.hid hb1
          clear hb1 HNm
          --#C2
          go_wp2_with fail
          refine (hA.out _ (HMr.out.next HB1.out)).mono ?_
          rintro e w2 ⟨rfl, hb2⟩
          have HB2 := Lib.hid (HB1.out.trans (hb2.mono HB1.out.size))
          clear hb2 hA HB1
          --#C3
          go_wp2_with fail
          refine (hR.out _ (HTr.out.next HB2.out)).mono ?_
          rintro e w3 ⟨⟨v3, rfl, ho3⟩, hb3⟩
          obtain ⟨A3, c3, rfl⟩ := ho3.form
          have HB3 := Lib.hid (HB2.out.trans (hb3.mono HB2.out.size))
          have HSp := Lib.hid (split_any A3 c3 l HLt.out (by have := HL.out; omega) w3 ho3.reads)
          rw [hFe.out] at HSp
          dsimp only at HSp
          clear ho3 hb3 hR HB2 hFe HL HLt
          --#C4
          go_wp2_with fail
          refine HSp.out.mono ?_
          rintro e w4 ⟨v4, rfl, ho4, hb4⟩
          have HB4 := Lib.hid (HB3.out.trans (hb4.mono HB3.out.size))
          obtain ⟨A4, c4, rfl, _⟩ := ho4.reads
          obtain ⟨g, P, p, D, dd, hA4, hP, hx⟩ := one_tokR ho4
          subst hA4
          obtain ⟨P0, hP0, _, y0⟩ := hP.at_ (k := 0) (by simp [askT])
          obtain ⟨P1, hP1, _, y1⟩ := hP.at_ (k := 1) (by simp [askT])
          subst hP0
          cases hP1
          obtain ⟨x0, x1, x2, x3, x4, x5⟩ := hx
          (try dsimp only [askT] at x0 x1 x2 x3 x4 x5)
          rw [hmc] at x2
          simp only [askT, List.getElem_cons_zero, List.getElem_cons_succ] at y0 y1
          (try dsimp only at y0 y1)
          replace y0 : w4.cell? P0 = some (.int .i64 n) := y0
          replace y1 : w4.cell? ⟨P0.block, P0.off + 1, _⟩ = some _ := y1
          replace x3 : w4.cell? ⟨g, 3, none⟩ = some (.slice (some P0) 2 p) := x3
          have hwz0 : IntKind.i64.wrap 0 = 0 := by rfl
          have hwz1 : IntKind.i64.wrap 1 = 1 := by rfl
          clear ho4 hb4 HB3 HSp hP x1 x4 x5
          --#C5
          go_upto_region 9 with fail
          clear x0 x2 x3 y0 y1 hwz0 hwz1 hmc hcd
          --#C6
          go_wp2_with fail
          refine (hF.out _ (HMr.out.next HB4.out)).mono ?_
          rintro e w5 ⟨rfl, hb5⟩
          have HB5 := Lib.hid (HB4.out.trans (hb5.mono HB4.out.size))
          clear hb5 hF HB4
          --#C7
          go_wp2_with fail
          refine (hHs.out _).mono ?_
          rintro e w6 ⟨rfl, rfl⟩
          --#C8
          have HW0 := Lib.hid (fun W => with_any 0 (j : Int) false W)
          have HW1 := Lib.hid (fun W => with_any (withN 0 (j : Int) false) (j : Int) true W)
          have HH1 : Hid (∀ W, Calls Tryd.prog 9 #[.int .u32 (withN (withN 0 (j : Int) false) (j : Int) true : Nat), .int .i64 j] W fun e w' => e = .returned (.bool true) ∧ W = w') := Lib.hid (fun W => by have q := has_any (withN (withN 0 (j : Int) false) (j : Int) true) (withN_lt _ _ _) (j : Int) W; rw [hasN_with, if_pos ⟨rfl, HIs.out⟩] at q; exact q)
          generalize withN (withN 0 (j : Int) false) (j : Int) true = o2 at *
          generalize withN 0 (j : Int) false = o1 at *
          go_wp2_with fail
          refine (HW0.out _).mono ?_
          rintro e w6 ⟨rfl, rfl⟩
          --#C9
          go_wp2_with fail
          refine (HW1.out _).mono ?_
          rintro e w6 ⟨rfl, rfl⟩
          go_wp2_with fail
          refine (HH1.out _).mono ?_
          rintro e w6 ⟨rfl, rfl⟩
          go_wp2_with fail
          refine (hHs.out _).mono ?_
          rintro e w6 ⟨rfl, rfl⟩
          go_wp2_with fail
          --#C10
          go_roundw
          case rel => exact ⟨j + 1, by have := HJ.out; omega, by go_num, HBr.out.trans (HB5.out.mono HBr.out.size)⟩
          case measure => have := HJ.out; simp [intOf]; omega
      · have hA : Hid (∀ W, Mods W → Calls Tryd.prog 5 #[.int .u32 m, .bool d, .int .i64 n, .int .i64 level] W fun e w' => e = .returned (.int .i64 0) ∧ Below W.heap.size W w') := Lib.hid (fun W t => by have q := HAsk.out W t; rw [if_neg hl] at q; exact q)
        have hF : Hid (∀ W, Mods W → Calls Tryd.prog 8 #[.bool d, .int .i64 n, .int .i64 level] W fun e w' => e = .returned (.tuple #[.int .i64 0, .bool false]) ∧ Below W.heap.size W w') := Lib.hid (fun W t => by have q := HFnd.out W t; rw [if_neg hl] at q; exact q)
        have hR := Lib.hid (fun W t => HRM.out d n 0 W t)
        have hFe := Lib.hid (ask_read (n := n) (v := 0) HN.out (by decide) d eight)
        have HL := Lib.hid (rep_len 4 (if d then ⟨#[63, 36, 121]⟩ else ⟨#[36, 121]⟩) ⟨#[]⟩ [n, 0] eight)
        have HLt := Lib.hid (rep_lt 4 (if d then ⟨#[63, 36, 121]⟩ else ⟨#[36, 121]⟩) ⟨#[]⟩ [n, 0] eight)
        generalize repL 4 (if d then ⟨#[63, 36, 121]⟩ else ⟨#[36, 121]⟩) ⟨#[]⟩ [n, 0] eight = l at *

        clear HAsk HFnd HRM HHas hl 
        --#D1
        go_wp2_with fail
        refine (HNm.out _ HMr.out).mono ?_
        rintro e w1 ⟨rfl, hb1⟩
        have HB1 := Lib.hid hb1
        clear hb1 HNm
        --#D2
        go_wp2_with fail
        refine (hA.out _ (HMr.out.next HB1.out)).mono ?_
        rintro e w2 ⟨rfl, hb2⟩
        have HB2 := Lib.hid (HB1.out.trans (hb2.mono HB1.out.size))
        clear hb2 hA HB1
        --#D3
        go_wp2_with fail
        refine (hR.out _ (HTr.out.next HB2.out)).mono ?_
        rintro e w3 ⟨⟨v3, rfl, ho3⟩, hb3⟩
        obtain ⟨A3, c3, rfl⟩ := ho3.form
        have HB3 := Lib.hid (HB2.out.trans (hb3.mono HB2.out.size))
        have HSp := Lib.hid (split_any A3 c3 l HLt.out (by have := HL.out; omega) w3 ho3.reads)
        rw [hFe.out] at HSp
        dsimp only at HSp
        clear ho3 hb3 hR HB2 hFe HL HLt
        --#D4
        go_wp2_with fail
        refine HSp.out.mono ?_
        rintro e w4 ⟨v4, rfl, ho4, hb4⟩
        have HB4 := Lib.hid (HB3.out.trans (hb4.mono HB3.out.size))
        obtain ⟨A4, c4, rfl, _⟩ := ho4.reads
        obtain ⟨g, P, p, D, dd, hA4, hP, hx⟩ := one_tokR ho4
        subst hA4
        obtain ⟨P0, hP0, _, y0⟩ := hP.at_ (k := 0) (by simp [askT])
        obtain ⟨P1, hP1, _, y1⟩ := hP.at_ (k := 1) (by simp [askT])
        subst hP0
        cases hP1
        obtain ⟨x0, x1, x2, x3, x4, x5⟩ := hx
        (try dsimp only [askT] at x0 x1 x2 x3 x4 x5)
        rw [hmc] at x2
        simp only [askT, List.getElem_cons_zero, List.getElem_cons_succ] at y0 y1
        (try dsimp only at y0 y1)
        replace y0 : w4.cell? P0 = some (.int .i64 n) := y0
        replace y1 : w4.cell? ⟨P0.block, P0.off + 1, _⟩ = some _ := y1
        replace x3 : w4.cell? ⟨g, 3, none⟩ = some (.slice (some P0) 2 p) := x3
        have hwz0 : IntKind.i64.wrap 0 = 0 := by rfl
        have hwz1 : IntKind.i64.wrap 1 = 1 := by rfl
        clear ho4 hb4 HB3 HSp hP x1 x4 x5
        --#D5
        go_upto_region 9 with fail
        clear x0 x2 x3 y0 y1 hwz0 hwz1 hmc hcd
        --#D6
        go_wp2_with fail
        refine (hF.out _ (HMr.out.next HB4.out)).mono ?_
        rintro e w5 ⟨rfl, hb5⟩
        have HB5 := Lib.hid (HB4.out.trans (hb5.mono HB4.out.size))
        clear hb5 hF HB4
        --#D7
        have HW0 := Lib.hid (fun W => with_any 0 (j : Int) false W)
        generalize withN 0 (j : Int) false = o1 at *
        go_wp2_with fail
        refine (HW0.out _).mono ?_
        rintro e w6 ⟨rfl, rfl⟩
        --#D9
        go_wp2_with fail
        --#D10
        go_roundw
        case rel => exact ⟨j + 1, by have := HJ.out; omega, by go_num, HBr.out.trans (HB5.out.mono HBr.out.size)⟩
        case measure => have := HJ.out; simp [intOf]; omega
    · have k1 : ((j : Int) < 17) = False := eq_false (by omega)
      go_wp2_with fail
      go_ret
      exact ⟨rfl, HBr.out⟩

set_option maxRecDepth 100000 in
/-- What the walk gives, for every argument and every world that holds the table. -/
theorem contract (H : Type) (enc : TypeId × Value → H) (W : World) (base : Nat) (args : Array Value) (ds gs : List (DataW H)) (before : List MemPlace)
    (hval : ∀ (j : Nat) t v, Tryd.f3.params[j]? = some t → args[j]? = some v → Value.okWide Tryd.prog W .any base t v)
    (hW : DataW.Whole enc Tryd.prog Tryd.f3.params.toList Rows.phosphorAskedSpec.vars false W args.toList ds gs before) (hL : laidMetH Tryd.prog Rows.phosphorAskedRow.laid W)
    (hreach : (DataW.weightsEach Tryd.prog (Tryd.f3.params.toList ++ []) (ds ++ gs)).all (· ≤ reachBytes) = true) :
    Calls Tryd.prog 3 args W fun e W' => ∃ v, e = .returned v ∧ Rows.phosphorAskedSpec.post enc Tryd.prog Tryd.f3 false true false false W args v W' := by
  have hW' := hW
  have ht := modsAs hL
  have hs := tenAs hL
  have hlts : ∀ x ∈ before, x.block < W.heap.size := fun x hx => hW'.lt x hx
  obtain ⟨p, q, hA0, hV, rfl, hfz, hnd⟩ := hW
  have hA : DataW.TrodAll enc Tryd.prog W 0 (fun _ => true) true Tryd.f3.params.toList args.toList ds p := hA0
  rw [Tryd.params3] at hA hval hreach
  obtain ⟨v0, vs0, d0, ds0, pp0, qq0, hargs, rfl, rfl, h0, rr0⟩ := trodAll_cons hA
  obtain ⟨v1, vs1, d1, ds1, pp1, qq1, rfl, rfl, rfl, h1, rr1⟩ := trodAll_cons rr0
  obtain ⟨v2, vs2, d2, ds2, pp2, qq2, rfl, rfl, rfl, h2, rr2⟩ := trodAll_cons rr1
  obtain ⟨rfl, rfl, rfl⟩ := trodAll_nil rr2
  obtain rfl : args = #[v0, v1, v2] := by cases args; simp_all
  obtain ⟨rfl, rfl⟩ := trodVars_none hV
  obtain ⟨z0, rfl, rfl, rfl, w0⟩ := open_int Tryd.underlying23 (hval 0 23 v0 rfl rfl) h0
  obtain ⟨lo0, hi0⟩ := bounds_u32 w0
  obtain ⟨a0, rfl⟩ : ∃ a : Nat, z0 = (a : Int) := ⟨z0.toNat, by omega⟩
  obtain ⟨a1, rfl, rfl, rfl, w1⟩ := open_int Tryd.underlying3 (hval 1 3 v1 rfl rfl) h1
  obtain ⟨a2, rfl, rfl, rfl⟩ := open_bool Tryd.underlying4 (hval 2 4 v2 rfl rfl) h2
  clear hA0
  refine (walk a0 (by omega) a1 a2 W ht hs).mono fun e W' ⟨he, hb⟩ => ?_
  subst he
  exact ⟨_, rfl, post_law laidOut (by kernel_rfl) (by kernel_rfl) rfl hW' rfl hb⟩

set_option maxRecDepth 100000 in
theorem laid_met (os : Os) : laidMet Tryd.prog Rows.phosphorAskedRow.laid ((laidWorldA os).forCall (fun _ _ => 0) ⟨#[], #[Value.int .u32 0, Value.int .i64 0, Value.bool false], []⟩).memory :=
  laidMet_of_run' 8 (by kernel_rfl) (by kernel_rfl)
set_option maxRecDepth 100000 in
theorem reads (os : Os) {H : Type} (enc : TypeId × Value → H) : ∃ places, DataW.whole enc Tryd.prog ((laidWorldA os).forCall (fun _ _ => 0) ⟨#[], #[Value.int .u32 0, Value.int .i64 0, Value.bool false], []⟩).memory Tryd.f3.params.toList Rows.phosphorAskedSpec.vars false (#[Value.int .u32 0, Value.int .i64 0, Value.bool false] : Array Value).toList 8 = some ([.lit (.int .u32 0), .lit (.int .i64 0), .lit (.bool false)], [], places) :=
  ⟨[], by kernel_rfl⟩

set_option maxRecDepth 100000 in
theorem lifted (os : Os) (started : os.Started) (H : Type) (enc : TypeId × Value → H) (F : Stop.Interp) :
    ReturnsInHanded {} Tryd.checked os 3 .any ((OpenSpec.ofChange Rows.phosphorAskedSpec).preRow enc Tryd.prog Tryd.f3 Rows.phosphorAskedRow.domain false Rows.phosphorAskedRow.laid) (((OpenSpec.ofChange Rows.phosphorAskedSpec).at F).post enc Tryd.prog Tryd.f3 false true false false) := by
  obtain ⟨places, hx⟩ := reads os enc
  refine returnsInHanded_of_row (C := Tryd.checked) (s := OpenSpec.ofChange Rows.phosphorAskedSpec) own started (by kernel_rfl) Tryd.func3
    (witness_row_at (enc := enc) (C := Tryd.checked) false (laidWorldA os) #[Value.int .u32 0, Value.int .i64 0, Value.bool false] rfl (by kernel_rfl) (by kernel_rfl) (by kernel_rfl)
      (OpenSpec.preRow_of_cond 8 hx (by kernel_rfl) (fun k hk => by cases hk) (by kernel_rfl) (laid_met os))) ?_
  intro W base args ds gs before hval hW _ _ hreach hL _ _
  exact contract H enc W base args ds gs before hval hW hL hreach

theorem said : Rows.PhosphorAskedSaid :=
  OpenClaim.holds_of_cond 3 Tryd.f3 rfl rfl rfl rfl rfl rfl rfl ⟨rfl, rfl, rfl, rfl, rfl⟩ rfl rfl rfl rfl rfl (by kernel_rfl) Tryd.func3 (by kernel_rfl)
    (of_decide_eq_true (by kernel_rfl)) (by unfold Func.isWrapper; first | (rw [if_pos (by decide +kernel)]; kernel_rfl) | (rw [if_neg (by decide +kernel)]; exact ⟨rfl, rfl⟩))
    (fun os started H enc _ F => by rw [OpenClaim.pre_eq_preRow]; exact lifted os started H enc F)

theorem plain (f : FuncId) (fn : Func) (hf : Tryd.pinned.checked.prog.funcNamed "phosphor/phosphortop.PhosphorAsked" = some f) (hfn : Tryd.pinned.checked.prog.funcs[f]? = some fn) :
    false = Tryd.pinned.checked.prog.looks [] ∧ ∀ (j : Nat) t, fn.params[j]? = some t → Tryd.pinned.checked.prog.wantsStandIn t = false := by
  obtain rfl : f = 3 := Option.some.inj ((show Tryd.prog.funcNamed "phosphor/phosphortop.PhosphorAsked" = some 3 by kernel_rfl).symm.trans hf) |>.symm
  obtain rfl : fn = Tryd.f3 := (Option.some.inj (Tryd.func3.symm.trans hfn)).symm
  refine ⟨by kernel_rfl, fun j t ht => ?_⟩
  rw [Tryd.params3] at ht
  have hm : t ∈ [23, 3, 4] := by simpa using Array.mem_of_getElem? ht
  have hall : ([23, 3, 4].all fun u => !Tryd.prog.wantsStandIn u) = true := by kernel_rfl
  exact (show Tryd.prog.wantsStandIn t = false by simpa using List.all_eq_true.1 hall t hm)

/-- The card. -/
theorem card : Rows.PhosphorAskedCardSaid :=
  Claim7.holds_tied_plain_at .later [] _ _ _ _ said (fun _ h => by cases h) (by kernel_rfl) (fun _ h => by cases h) phosphorAsked_row_tie rfl ⟨rfl, rfl⟩ (by kernel_rfl) rfl plain (by kernel_rfl)
#print axioms card
end Go.Proofs.YtigaaidacndeiaaDoor.phosphorAsked

/-
  CellTurns holds, whatever the input: the card of the statement, with the table of parts tied to the program's text.
-/
import Derived.Test.YtdjbfnhgendacaaDoorCards
import Derived.Test.YtdjbfnhgendacaaDoorTie
import Derived.Test.YtdjbfnhgendacaaDoorFrameB
import Derived.Test.YtdjbfnhgendacaaDoorFrameC
import Derived.Test.YtdjbfnhgendacaaDoorFrameE
import Derived.Test.YtdjbfnhgendacaaDoorTurn
import Derived.Test.YtdjbfnhgendacaaDoorRendB
import Derived.Test.YtdjbfnhgendacaaDoorCuts
import Derived.Test.YtdjbfnhgendacaaDoorOneC
namespace Go.Proofs.YtdjbfnhgendacaaDoor.cellTurns
open Go.ChangeShapes Go.WideShapes Go.ChangeAt Go.RowKit
open Go.ChangeMaps (open_string)

set_option maxHeartbeats 4000000 in
theorem walk (A : Option Addr) (c : Nat) (l0 : List Cl) (hl0 : l0.length ≤ maxLen) (hc0 : l0.length ≤ c) (ok0 : OkCells l0) (B : Option Addr) (d : Nat) (ns0 : List Int) (hm : ns0.length ≤ 17592186043904) (hd : ns0.length ≤ d)
    (w : World) (ht : Tab w) (hr0 : RCells w A l0) (hs0 : RInts w B ns0) :
    Calls Tryd.prog 13 #[.slice A l0.length c, .slice B ns0.length d] w fun e w' => e = .returned (.bool true) ∧ Below w.heap.size w w' := by
  have HC0 := Lib.hid (fun W => cut_any A c l0 hl0 hc0 300 (by omega) W)
  have hr : RCells w A (l0.take 300) := hr0.take 300
  have hs : RInts w B (ns0.take 20) := rints_take hs0 20
  have hok : OkCells (l0.take 300) := fun x hx => ok0 x (List.mem_of_mem_take hx)
  have hl : (l0.take 300).length ≤ 300 := by rw [List.length_take]; omega
  have hn : (ns0.take 20).length ≤ 20 := by rw [List.length_take]; omega
  generalize l0.take 300 = l at *
  clear hr0 hs0 ok0
  have HOk := Lib.hid hok
  have HFact := Lib.hid (turn_fact hok)
  have HOk2 : Hid (OkCells (l.map turnC)) := Lib.hid (fun x hx => by
    obtain ⟨y, hy, rfl⟩ := List.mem_map.1 hx
    have := hok y hy
    exact ⟨this.1, by show 0 ≤ y.r % 32 ∧ y.r % 32 ≤ 255; omega⟩)
  clear hok
  go_enter Tryd.func13, Tryd.ntmps13
  go_wp2_with fail
  refine (awake2_any _ ht).mono ?_
  rintro e w1 ⟨rfl, hb⟩
  go_wp2_with fail
  refine (HC0.out _).mono ?_
  rintro e w2 ⟨rfl, hb'⟩
  replace hb := hb.trans (hb'.mono hb.size); clear hb'
  go_upto_if 17 with fail
  go_cut [1] (fun s wx => s = .slice B (ns0.take 20).length d ∧ wx = w2)
  case first =>
    by_cases h : 20 < ns0.length
    · have hlen : (ns0.take 20).length = 20 := by rw [List.length_take]; omega
      have HLen := Lib.hid hlen
      clear hlen
      go_wp2
      go_meet
      exact ⟨by rw [HLen.out], rfl⟩
    · have hlen : ns0.take 20 = ns0 := List.take_of_length_le (by omega)
      have HLen := Lib.hid hlen
      clear hlen
      go_wp2
      go_meet
      exact ⟨by rw [HLen.out], rfl⟩
  case rest =>
    obtain ⟨rfl, rfl⟩ := hcut
    generalize ns0.take 20 = ns at *
    clear hm hd hl0 hc0
    have hSum := fun W ht hr g hg => sum_one A c 1 l (by omega) HOk.out W ht hr g hg 47
    obtain ⟨x0, x1⟩ := sumC_range l (s := 0) (by omega) (by omega)
    obtain ⟨y0, y1⟩ := sumC_range (l.map turnC) (s := 0) (by omega) (by omega)
    generalize hy : sumC 0 (l.map turnC) = y at *
    have HY := Lib.hid hy
    clear hy
    generalize sumC 0 l = x at *
    have HSum := Lib.hid hSum
    clear hSum
    go_wp2_with fail
    refine (HSum.out _ (ht.next hb) (hr.next hb) _ rfl).mono ?_
    rintro e w3 ⟨rfl, hb'⟩
    replace hb := hb.trans (hb'.mono hb.size); clear hb'
    go_wp2_with fail
    refine (cells_any A c l (by omega) _ (hr.next hb)).mono ?_
    rintro e w4 ⟨v, rfl, hown, hb'⟩
    have hbase := hb.size
    replace hb := hb.trans (hb'.mono hb.size); clear hb'
    obtain ⟨At, ct, rfl, hct⟩ := hown.form
    have HOwn := Lib.hid hown
    clear hown
    go_wp2_with fail
    go_loopw [27] (fun i wr => ∃ k : Nat, k ≤ l.length ∧ i = .int .i64 k ∧ OCells wr w3.heap.size (.slice At l.length ct) (mid l k) ∧ Below w.heap.size w wr) (fun i _ => l.length - (intOf i).toNat)
    case atStart => exact ⟨0, by omega, rfl, by simpa [mid] using HOwn.out, hb⟩
    case round =>
      obtain ⟨k, hk, rfl, hown, hbr⟩ := hrel
      clear hb
      by_cases hlt : k < l.length
      · obtain ⟨hmk, hme⟩ := mid_at l k hlt
        have hml := mid_len l k hk
        obtain ⟨gt, ct', hvt, hgt⟩ := ocells_head hown (by omega)
        simp only [Value.slice.injEq] at hvt
        obtain ⟨rfl, -, rfl⟩ := hvt
        obtain ⟨hc0, hc1, hc2, hfz⟩ := ocells_cell hml.symm hown hmk
        rw [hme] at hc0 hc1 hc2
        have HSet := Lib.hid (mid_set l k hlt)
        have hokc := HOk.out l[k] (List.getElem_mem hlt)
        generalize l[k] = cl at *
        obtain ⟨g, r, b⟩ := cl
        simp only at hc0 hc1 hc2
        obtain ⟨_, r0, r1⟩ := hokc
        have HML := Lib.hid hml
        have HMK := Lib.hid hmk
        have HOw := Lib.hid hown
        clear hml hmk hme hown hfz
        have hb0 : Below wr.heap.size wr (wr.alloc (.cells #[.int .i32 g, .int .u8 r, .bool b] 44)) := (Below.refl _ _).alloc (Nat.le_refl _) _
        have hB0 := Blk.new wr 44 #[.int .i32 g, .int .u8 r, .bool b]
        have hgl : gt < wr.heap.size := by
          rcases Nat.lt_or_ge gt wr.heap.size with h | h
          · exact h
          · exfalso
            have : wr.heap[gt]? = none := Array.getElem?_eq_none h
            simp [World.cell?, this] at hc0
        obtain ⟨f0, f1⟩ := flip_range (x := r) ns
        have f2 : flip r ns ≤ 255 := by omega
        have hfl := fun W ht hr => flip_any r r0 r1 B d ns (by unfold maxLen; omega) W ht hr
        have hf2 := fun W ht hr => flip_any (flip r ns) f0 f2 B d ns (by unfold maxLen; omega) W ht hr
        rw [flip_twice] at hf2
        have HFl := Lib.hid hfl; have HF2 := Lib.hid hf2; have HB0 := Lib.hid hB0
        clear hfl hf2 hB0
        generalize flip r ns = q at *
        go_wp2_with fail
        refine (HFl.out _ ((ht.next hbr).next hb0) ((hs.next hbr).next hb0)).mono ?_
        rintro e w5 ⟨rfl, hb5⟩
        have hbr5 := (hbr.trans (hb0.mono hbr.size)).trans (hb5.mono (Nat.le_trans hbr.size hb0.size))
        go_wp2_with fail
        refine (HF2.out _ (ht.next hbr5) (hs.next hbr5)).mono ?_
        rintro e w6 ⟨rfl, hb6⟩
        have hB6 : Blk w6 wr.heap.size 44 #[.int .i32 g, .int .u8 r, .bool b] := (HB0.out.next hb5).next hb6
        have ho6 : OCells w6 w3.heap.size (.slice (some ⟨gt, 0, none⟩) l.length ct) (mid l k) := ((HOw.out.next hb0).next hb5).next hb6
        have hbr6 := hbr5.trans (hb6.mono hbr5.size)
        have k1 : w6.cell? ⟨wr.heap.size, 1, none⟩ = some (.int .u8 r) := hB6.cell 1
        have k2 : w6.cell? ⟨wr.heap.size, 2, none⟩ = some (.bool b) := hB6.cell 2
        have z1 : w6.frozen? ⟨wr.heap.size, 1, none⟩ = false := hB6.frozen 1
        have z2 : w6.frozen? ⟨wr.heap.size, 2, none⟩ = false := hB6.frozen 2
        have hG : w.heap.size ≤ wr.heap.size := hbr.size
        have HB6 := Lib.hid hB6; have HO6 := Lib.hid ho6; have HR6 := Lib.hid hbr6
        clear hB6 ho6 hbr6 hb5 hb6 hbr5 hb0 HB0 HOw HFl HF2 hc0 hc1 hc2 f0 f1 f2
        go_upto_region 13 with fail
        have hB7 : Blk ((w6.setCell ⟨wr.heap.size, 1, none⟩ (.int .u8 (r % 32))).setCell ⟨wr.heap.size, 2, none⟩ (.bool (!b))) wr.heap.size 44 #[.int .i32 g, .int .u8 (r % 32), .bool (!b)] := (HB6.out.set_ 1 _).set_ 2 _
        have hO7 : OCells ((w6.setCell ⟨wr.heap.size, 1, none⟩ (.int .u8 (r % 32))).setCell ⟨wr.heap.size, 2, none⟩ (.bool (!b))) w3.heap.size (.slice (some ⟨gt, 0, none⟩) l.length ct) (mid l k) :=
          ownsRow_setCell_other (ownsRow_setCell_other HO6.out (a := ⟨wr.heap.size, 1, none⟩) (by simp [Value.ownBlock]; omega) _) (a := ⟨wr.heap.size, 2, none⟩) (by simp [Value.ownBlock]; omega) _
        have hR7 : Below w.heap.size w ((w6.setCell ⟨wr.heap.size, 1, none⟩ (.int .u8 (r % 32))).setCell ⟨wr.heap.size, 2, none⟩ (.bool (!b))) := (HR6.out.setCell hG _).setCell hG _
        generalize (w6.setCell ⟨wr.heap.size, 1, none⟩ (Value.int .u8 (r % 32))).setCell ⟨wr.heap.size, 2, none⟩ (Value.bool (!b)) = w7 at *
        clear k1 k2 z1 z2 HB6 HO6 HR6
        obtain ⟨hc0, hc1, hc2, hfz⟩ := ocells_cell HML.out.symm hO7 HMK.out
        have k0 : w7.cell? ⟨wr.heap.size, 0, none⟩ = some (.int .i32 g) := hB7.cell 0
        have k1 : w7.cell? ⟨wr.heap.size, 1, none⟩ = some (.int .u8 (r % 32)) := hB7.cell 1
        have k2 : w7.cell? ⟨wr.heap.size, 2, none⟩ = some (.bool (!b)) := hB7.cell 2
        have z0 := hfz (k * 3)
        have z1 := hfz (k * 3 + 1)
        have z2 := hfz (k * 3 + 2)
        have HO7 := Lib.hid hO7; have HR7 := Lib.hid hR7
        clear hfz hO7 hR7 hB7 hbr
        generalize (mid l k)[k]'HMK.out = zz at *
        go_wp2
        go_roundw
        case rel =>
          refine ⟨k + 1, by omega, by go_num, ?_, ((HR7.out.setCell (by show w.heap.size ≤ gt; omega) _).setCell (by show w.heap.size ≤ gt; omega) _).setCell (by show w.heap.size ≤ gt; omega) _⟩
          rw [← HSet.out]
          exact ocells_store HML.out.symm HO7.out k HMK.out (turnC ⟨g, r, b⟩)
        case measure => simp [intOf]; omega
      · obtain rfl : k = l.length := by omega
        have hL : mid l l.length = l.map turnC := by simp [mid]
        rw [hL] at hown
        have hown' : OCells wr w3.heap.size (.slice At (l.map turnC).length ct) (l.map turnC) := by rw [List.length_map]; exact hown
        have hrt := hown'.reads
        clear hL hown hown'
        have hS2 : ∀ (W : World) (g : Nat), Tab W → RCells W At (l.map turnC) → g = W.heap.size → Calls Tryd.prog 34 #[.slice (some ⟨g, 0, none⟩) 1 1] (W.alloc (.cells #[.slice At l.length ct] 47)) fun e w' => e = .returned (.int .i64 y) ∧ Below W.heap.size W w' := by
          intro W g h1 h2 h3
          have := sum_one At ct 1 (l.map turnC) (by simp; omega) HOk2.out W h1 h2 g h3 47
          rwa [List.length_map, HY.out] at this
        have HS2 := Lib.hid hS2
        clear hS2
        obtain ⟨n0, n1⟩ := keptN_range l
        have HN := Lib.hid (keptN_snoc l)
        have HRt := Lib.hid hrt
        clear hrt
        generalize hMM : l.map turnC = M at *
        clear hMM HOk2 HY HOwn
        go_wp2_with fail
        obtain ⟨wo, rfl⟩ : ∃ wo : World, wo = wr := ⟨_, rfl⟩
        go_loopw [9, 50] (fun s i wr => ∃ j : Nat, j ≤ l.length ∧ i = .int .i64 j ∧ s = .int .i64 (keptN (l.take j)) ∧ Below w.heap.size w wr ∧ RCells wr At M) (fun _ i _ => l.length - (intOf i).toNat)
        case atStart => exact ⟨0, by omega, rfl, rfl, hbr, HRt.out⟩
        case round =>
          obtain ⟨j, hj, rfl, rfl, hb2, hrt2⟩ := hrel
          have HRt2 := Lib.hid hrt2
          clear hrt2 hbr
          by_cases hltj : j < l.length
          · obtain ⟨ad, rfl, hbd, hc0, hc1, hc2⟩ := (hr.next hb2).at_ hltj
            have HNj := Lib.hid (HN.out j hltj)
            obtain ⟨p0, p1⟩ := keptN_range (l.take j)
            have p2 : ((l.take j).length : Int) ≤ 300 := by rw [List.length_take]; omega
            generalize keptN (l.take j) = q at *
            generalize l[j] = cl at *
            obtain ⟨g, r, b⟩ := cl
            simp only at hc0 hc1 hc2
            have p3 : q ≤ 300 := by omega
            clear p1 p2
            cases b
            · go_wp2
              go_roundw
              case rel => exact ⟨j + 1, by omega, by go_num, by rw [HNj.out]; simp, hb2, HRt2.out⟩
              case measure => simp [intOf]; omega
            · go_wp2
              go_roundw
              case rel => exact ⟨j + 1, by omega, by go_num, by rw [HNj.out]; simp, hb2, HRt2.out⟩
              case measure => simp [intOf]; omega
          · obtain rfl : j = l.length := by omega
            rw [List.take_length]
            have hF := HFact.out
            generalize keptN l = q at *
            go_wp2_with fail
            refine (HS2.out _ _ (ht.next hb2) HRt2.out rfl).mono ?_
            rintro e w8 ⟨rfl, hb'⟩
            replace hb2 := hb2.trans (hb'.mono hb2.size); clear hb'
            go_wp2_with fail
            go_ret
            exact ⟨rfl, hb2⟩

/-- What the walk gives, for every argument and every world that holds the table. -/
theorem contract (H : Type) (enc : TypeId × Value → H) (W : World) (base : Nat) (args : Array Value) (ds gs : List (DataW H)) (before : List MemPlace)
    (hval : ∀ (j : Nat) t v, Tryd.f13.params[j]? = some t → args[j]? = some v → Value.okWide Tryd.prog W .any base t v)
    (hW : DataW.Whole enc Tryd.prog Tryd.f13.params.toList Rows.cellTurnsSpec.vars false W args.toList ds gs before) (hL : laidMetH Tryd.prog Rows.cellTurnsRow.laid W)
    (hreach : (DataW.weightsEach Tryd.prog (Tryd.f13.params.toList ++ []) (ds ++ gs)).all (· ≤ reachBytes) = true) :
    Calls Tryd.prog 13 args W fun e W' => ∃ v, e = .returned v ∧ Rows.cellTurnsSpec.post enc Tryd.prog Tryd.f13 false true false false W args v W' := by
  have hW' := hW
  have ht := tab_of hL
  have hlts : ∀ x ∈ before, x.block < W.heap.size := fun x hx => hW'.lt x hx
  obtain ⟨p, q, hA0, hV, rfl, hfz, hnd⟩ := hW
  have hA : DataW.TrodAll enc Tryd.prog W 0 (fun _ => true) true Tryd.f13.params.toList args.toList ds p := hA0
  rw [Tryd.params13] at hA hval hreach
  obtain ⟨v0, vs0, d0, ds0, p0, q0, hargs, rfl, rfl, h0, r0⟩ := trodAll_cons hA
  obtain ⟨v1, vs1, d1, ds1, p1, q1, rfl, rfl, rfl, h1, r1⟩ := trodAll_cons r0
  obtain ⟨rfl, rfl, rfl⟩ := trodAll_nil r1
  obtain rfl : args = #[v0, v1] := by cases args; simp_all
  obtain ⟨rfl, rfl⟩ := trodVars_none hV
  obtain ⟨b0, len0, cap0, rfl⟩ := okWide_slice Tryd.underlying47 (hval 0 47 v0 rfl rfl)
  obtain ⟨l0, hlen0, hm0, hc0, ok0, hri0⟩ := cells_in h0
  subst hlen0
  obtain ⟨b1, len1, cap1, rfl⟩ := okWide_slice Tryd.underlying23 (hval 1 23 v1 rfl rfl)
  have hin1 := ints_in2 h1 (fun el sp e => by subst e; exact sized_slice hreach (j := 1) rfl rfl Tryd.underlying23)
  obtain ⟨ns1, hlen1, hm1, hc1, hri1⟩ := hin1
  subst hlen1
  clear hA0
  refine (walk b0 cap0 l0 hm0 hc0 ok0 b1 cap1 ns1 hm1 hc1 W ht hri0 hri1).mono fun e W' ⟨he, hb⟩ => ?_
  subst he
  exact ⟨_, rfl, post_law laidOut (by kernel_rfl) (by kernel_rfl) rfl hW' rfl hb⟩

theorem laid_met (os : Os) : laidMet Tryd.prog Rows.cellTurnsRow.laid ((laidWorld os).forCall (fun _ _ => 0) ⟨#[], #[Value.slice none 0 0, Value.slice none 0 0], []⟩).memory :=
  laidMet_of_run' 8 (by kernel_rfl) (by kernel_rfl)
theorem reads (os : Os) {H : Type} (enc : TypeId × Value → H) : ∃ places, DataW.whole enc Tryd.prog ((laidWorld os).forCall (fun _ _ => 0) ⟨#[], #[Value.slice none 0 0, Value.slice none 0 0], []⟩).memory Tryd.f13.params.toList Rows.cellTurnsSpec.vars false (#[Value.slice none 0 0, Value.slice none 0 0] : Array Value).toList 8 = some ([.nil, .nil], [], places) :=
  ⟨[], by kernel_rfl⟩

set_option maxRecDepth 100000 in
theorem lifted (os : Os) (started : os.Started) (H : Type) (enc : TypeId × Value → H) (F : Stop.Interp) :
    ReturnsInHanded {} Tryd.checked os 13 .any ((OpenSpec.ofChange Rows.cellTurnsSpec).preRow enc Tryd.prog Tryd.f13 Rows.cellTurnsRow.domain false Rows.cellTurnsRow.laid) (((OpenSpec.ofChange Rows.cellTurnsSpec).at F).post enc Tryd.prog Tryd.f13 false true false false) := by
  obtain ⟨places, hx⟩ := reads os enc
  refine returnsInHanded_of_row (C := Tryd.checked) (s := OpenSpec.ofChange Rows.cellTurnsSpec) own started (by kernel_rfl) Tryd.func13
    (witness_row_at (enc := enc) (C := Tryd.checked) false (laidWorld os) #[Value.slice none 0 0, Value.slice none 0 0] rfl (by kernel_rfl) (by kernel_rfl) (by kernel_rfl)
      (OpenSpec.preRow_of_cond 8 hx (by kernel_rfl) (fun k hk => by cases hk) (by kernel_rfl) (laid_met os))) ?_
  intro W base args ds gs before hval hW _ _ hreach hL _ _
  exact contract H enc W base args ds gs before hval hW hL hreach

theorem said : Rows.CellTurnsSaid :=
  OpenClaim.holds_of_cond 13 Tryd.f13 rfl rfl rfl rfl rfl rfl rfl ⟨rfl, rfl, rfl, rfl, rfl⟩ rfl rfl rfl rfl rfl (by kernel_rfl) Tryd.func13 (by kernel_rfl)
    (of_decide_eq_true (by kernel_rfl)) (by unfold Func.isWrapper; first | (rw [if_pos (by decide +kernel)]; kernel_rfl) | (rw [if_neg (by decide +kernel)]; exact ⟨rfl, rfl⟩))
    (fun os started H enc _ F => by rw [OpenClaim.pre_eq_preRow]; exact lifted os started H enc F)

theorem plain (f : FuncId) (fn : Func) (hf : Tryd.pinned.checked.prog.funcNamed "phosphor/phosphorlaw02.CellTurns" = some f) (hfn : Tryd.pinned.checked.prog.funcs[f]? = some fn) :
    false = Tryd.pinned.checked.prog.looks [] ∧ ∀ (j : Nat) t, fn.params[j]? = some t → Tryd.pinned.checked.prog.wantsStandIn t = false := by
  obtain rfl : f = 13 := Option.some.inj ((show Tryd.prog.funcNamed "phosphor/phosphorlaw02.CellTurns" = some 13 by kernel_rfl).symm.trans hf) |>.symm
  obtain rfl : fn = Tryd.f13 := (Option.some.inj (Tryd.func13.symm.trans hfn)).symm
  refine ⟨by kernel_rfl, fun j t ht => ?_⟩
  rw [Tryd.params13] at ht
  have hm : t ∈ [47, 23] := by simpa using Array.mem_of_getElem? ht
  have hall : ([47, 23].all fun u => !Tryd.prog.wantsStandIn u) = true := by kernel_rfl
  exact (show Tryd.prog.wantsStandIn t = false by simpa using List.all_eq_true.1 hall t hm)

/-- The card. -/
theorem card : Rows.CellTurnsCardSaid :=
  Claim7.holds_tied_plain_at .later [] _ _ _ _ said (fun _ h => by cases h) (by kernel_rfl) (fun _ h => by cases h) cellTurns_row_tie rfl ⟨rfl, rfl⟩ (by kernel_rfl) rfl plain (by kernel_rfl)
#print axioms card
end Go.Proofs.YtdjbfnhgendacaaDoor.cellTurns

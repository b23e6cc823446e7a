/-
  MacroFull holds, whatever the input: the card of the statement, with the library's three tables and its two errors tied to the program's text.
-/
import Derived.Test.YtnbbepkkedhhgaaDoorCards
import Derived.Test.YtnbbepkkedhhgaaDoorTie
import Derived.Test.YtnbbepkkedhhgaaDoorFrameH
import Derived.Test.YtnbbepkkedhhgaaDoorFrameP
import Derived.Test.YtnbbepkkedhhgaaDoorStoG
namespace Go.Proofs.YtnbbepkkedhhgaaDoor.macroFull
open Go.ChangeShapes Go.WideShapes Go.ChangeAt Go.RowKit
open Go.ChangeMaps (open_string)

set_option maxRecDepth 100000 in
set_option maxHeartbeats 16000000 in
theorem walk (A : Option Addr) (cap : Nat) (ns : List Int) (_hns : ns.length ≤ 17592186043904) (last : Int) (_hlast : -9223372036854775808 ≤ last ∧ last ≤ 9223372036854775807) (w : World) (_ht : Ten w) (he : ErrS w) (hri : RInts w A ns) :
    Calls Tryd.prog 3 #[.slice A ns.length cap, .int .i64 last] w fun e w' => e = .returned (.bool true) ∧ Below w.heap.size w w' := by
  have HAw := Lib.hid (macAwake_any w he)
  have HE := Lib.hid he
  have HR := Lib.hid hri
  have hmk := run_make_row' (P := Tryd.prog) 29 5 (.int .u8 0) 1 Tryd.underlying29 (by kernel_rfl) rfl .i64 .i64
  obtain ⟨ml, hml⟩ : ∃ m : Int, min last 7000 = m := ⟨_, rfl⟩
  obtain ⟨L, hL⟩ : ∃ n : Nat, max 0 ml = (n : Int) := ⟨(max 0 ml).toNat, by omega⟩
  have hL7 : L ≤ 7000 := by omega
  clear he hri
  go_enter Tryd.func3, Tryd.ntmps3
  go_wp2_with fail
  refine HAw.out.mono ?_
  rintro e w1 ⟨rfl, hb⟩
  have HB1 := Lib.hid hb
  clear hb HAw
  --#1
  go_wp2_with fail
  have HS0 : StoB (w1.alloc (.cells #[.map none] 26)) w1.heap.size none 0 (.map []) := ⟨Blk.new _ _ _, .inl ⟨rfl, rfl⟩⟩
  obtain ⟨S, hS⟩ : ∃ S, w1.heap.size = S := ⟨_, rfl⟩
  have HB2 := Lib.hid (show Below w.heap.size w (w1.alloc (.cells #[.map none] 26)) from HB1.out.alloc HB1.out.size _)
  have hSB : w.heap.size ≤ S := by rw [← hS]; exact HB1.out.size
  rw [hS] at HS0 ⊢
  have HS := Lib.hid HS0
  clear HS0 HB1
  generalize w1.alloc (.cells #[.map none] 26) = w2 at *
  clear hS w1
  --#2
  go_loopw [6, 7] (fun su i wr => ∃ (k T : Nat) (m : Option Nat) (D : DataW Unit), i = .int .i64 k ∧ su = .int .i64 T ∧ k ≤ ns.length ∧ k ≤ 64 ∧ tot D = T ∧ T ≤ 6144 ∧ StoB wr S m k D ∧ FarMap w.heap.size m ∧ (∀ j : Int, (k : Int) ≤ j → Maps.has D (kz j) = false) ∧ Below w.heap.size w wr) (fun _ i _ => 64 - (intOf i).toNat)
  case atStart => exact ⟨0, 0, none, .map [], rfl, rfl, Nat.zero_le _, by omega, rfl, by omega, HS.out, (fun b e => by cases e), (fun j _ => rfl), HB2.out⟩
  case round =>
    obtain ⟨k, T, m, D, rfl, rfl, hk, hk64, hT, hT6, hsto, hfar, hno, hbw⟩ := hrel
    have HST := Lib.hid hsto
    have HFM := Lib.hid hfar
    have HNO := Lib.hid hno
    have HBW := Lib.hid hbw
    clear hsto hfar hno hbw HS HB2
    by_cases hkn : k < ns.length
    · have c1 : (k : Int) < (ns.length : Int) := by omega
      by_cases hk6 : k < 64
      · have c2 : (k : Int) < 64 := by omega
        obtain ⟨ad, rfl, had, cx⟩ := (HR.out.next HBW.out).at_ hkn
        obtain ⟨x, hx⟩ : ∃ x, ns[k] = x := ⟨_, rfl⟩
        rw [hx] at cx
        obtain ⟨mn, hmn⟩ : ∃ y : Int, min x 7000 = y := ⟨_, rfl⟩
        obtain ⟨N, hN⟩ : ∃ n : Nat, max 0 mn = (n : Int) := ⟨(max 0 mn).toNat, by omega⟩
        have hN7 : N ≤ 7000 := by omega
        have hmkN := hmk N (by omega) (by omega)
        have hcv := made_conv wr N
        clear hmk hx
        go_wp2_with fail
        have hal : Below wr.heap.size wr (wr.alloc (.cells (madeCells #[.int .u8 0] N) 5)) := (Below.refl _ _).alloc (Nat.le_refl _) _
        have HB4 := Lib.hid (HBW.out.trans (hal.mono HBW.out.size))
        have HS4 := Lib.hid (HST.out.next hal)
        clear hal hcv hmkN cx HST HBW
        generalize wr.alloc (.cells (madeCells #[.int .u8 0] N) 5) = w4 at *
        have HD := Lib.hid (defineM_any S m k D k (by omega) false false (zeroB N) (by rw [zeroB_size]; omega) (by omega) w4 HS4.out (by omega) (HE.out.next HB4.out))
        rw [defD_plain D k (by omega) (by omega) (HNO.out k (Int.le_refl _)) (zeroB N), zeroB_size, hT] at HD
        have htidy := HS4.out.2.tidy
        by_cases hfit : N ≤ 6144 - T
        · rw [if_pos hfit] at HD
          refine HD.out.mono ?_
          rintro e w5 ⟨rfl, ⟨m5, hs5, hsn⟩, ho⟩
          have ht5 : tot (putD D k (zeroB N)) = T + N := by
            have := putD_tot D htidy k (zeroB N)
            rw [txAt_none D k (HNO.out k (Int.le_refl _)), zeroB_size, hT] at this
            omega
          have HSp := Lib.hid (space_any S m5 (k + 1) (putD D k (zeroB N)) w5 hs5 (by omega))
          rw [ht5] at HSp
          have HN5 := Lib.hid (show ∀ j : Int, ((k + 1 : Nat) : Int) ≤ j → Maps.has (putD D k (zeroB N)) (kz j) = false from fun j hj => by rw [putD_has D k j _ (by omega)]; exact HNO.out j (by omega))
          have HB5 := Lib.hid (HB4.out.trans (ho.below HB4.out.size (own_far hSB HFM.out)))
          have HS5 := Lib.hid hs5
          have HF5 := Lib.hid (HFM.out.same hsn HB4.out.size)
          have HT5 := Lib.hid ht5
          have g6 : (T : Int) + (N : Int) ≤ 6144 := by omega
          have hw1 : IntKind.i64.wrap ((T : Int) + (N : Int)) = (T : Int) + (N : Int) := IntWalk.i64_in _ (by omega)
          have hw2 : IntKind.i64.wrap (6144 - ((T : Int) + (N : Int))) = 6144 - ((T : Int) + (N : Int)) := IntWalk.i64_in _ (by omega)
          have hw3 : IntKind.i64.wrap ((k : Int) + 1) = (k : Int) + 1 := IntWalk.i64_in _ (by omega)
          have hcs : ((T + N : Nat) : Int) = (T : Int) + (N : Int) := by omega
          rw [hcs] at HSp
          clear hs5 hsn ho HD ht5 HNO HFM HS4
          go_wp2_with fail
          refine HSp.out.mono ?_
          rintro e w6 ⟨rfl, hb6⟩
          have HB6 := Lib.hid (HB5.out.trans (hb6.mono HB5.out.size))
          have HS6 := Lib.hid (HS5.out.next hb6)
          clear hb6 HSp
          go_wp2_with fail
          go_roundw
          case rel => exact ⟨k + 1, T + N, m5, putD D k (zeroB N), by first | rfl | go_num, by first | rfl | go_num, by omega, by omega, HT5.out, by omega, HS6.out, HF5.out, HN5.out, HB6.out⟩
          case measure => simp [intOf]; omega
        · rw [if_neg hfit] at HD
          refine HD.out.mono ?_
          rintro e w5 ⟨rfl, ⟨m5, hs5, hsn⟩, ho⟩
          have HSp := Lib.hid (space_any S m5 (k + 1) D w5 hs5 (by omega))
          rw [hT] at HSp
          have HN5 := Lib.hid (show ∀ j : Int, ((k + 1 : Nat) : Int) ≤ j → Maps.has D (kz j) = false from fun j hj => HNO.out j (by omega))
          have HB5 := Lib.hid (HB4.out.trans (ho.below HB4.out.size (own_far hSB HFM.out)))
          have HS5 := Lib.hid hs5
          have HF5 := Lib.hid (HFM.out.same hsn HB4.out.size)
          have g6 : ¬ (T : Int) + (N : Int) ≤ 6144 := by omega
          have hw1 : IntKind.i64.wrap ((T : Int) + (N : Int)) = (T : Int) + (N : Int) := IntWalk.i64_in _ (by omega)
          have hw2 : IntKind.i64.wrap (6144 - (T : Int)) = 6144 - (T : Int) := IntWalk.i64_in _ (by omega)
          have hw3 : IntKind.i64.wrap ((k : Int) + 1) = (k : Int) + 1 := IntWalk.i64_in _ (by omega)
          clear hs5 hsn ho HD HNO HFM HS4
          go_wp2_with fail
          refine HSp.out.mono ?_
          rintro e w6 ⟨rfl, hb6⟩
          have HB6 := Lib.hid (HB5.out.trans (hb6.mono HB5.out.size))
          have HS6 := Lib.hid (HS5.out.next hb6)
          clear hb6 HSp
          go_wp2_with fail
          go_roundw
          case rel => exact ⟨k + 1, T, m5, D, by first | rfl | go_num, by first | rfl | go_num, by omega, by omega, hT, by omega, HS6.out, HF5.out, HN5.out, HB6.out⟩
          case measure => simp [intOf]; omega
      · have c2 : ¬ (k : Int) < 64 := by omega
        go_wp2_with fail
        refine (cloneM_any S m k D wr HST.out).mono ?_
        rintro e w3 ⟨⟨B, m2, rfl, hsB, hB, hp⟩, hb⟩
        have hno : ∀ q ∈ ownB S m, q < wr.heap.size := own_lt HST.out
        have hBn : B ∉ ownB S m := fun h => by have := hno _ h; omega
        have hmn : ∀ q, m2 = some q → q ∉ ownB S m := fun q e h => by
          have := hno _ h
          rcases hp with h1 | ⟨q2, h1, h2⟩
          · rw [h1] at e; cases e
          · rw [h1] at e; injection e with e; omega
        have HB3 := Lib.hid (HBW.out.trans (hb.mono HBW.out.size))
        have HS3 := Lib.hid (HST.out.next hb)
        have HC3 := Lib.hid hsB
        clear hsB hb hp hB hno HST HBW
        have hmkL := hmk L (by omega) (by omega)
        have hcv := made_conv w3 L
        go_wp2_with fail
        have hal : Below w3.heap.size w3 (w3.alloc (.cells (madeCells #[.int .u8 0] L) 5)) := (Below.refl _ _).alloc (Nat.le_refl _) _
        have HB4 := Lib.hid (HB3.out.trans (hal.mono HB3.out.size))
        have HS4 := Lib.hid (HS3.out.next hal)
        have HC4 := Lib.hid (HC3.out.next hal)
        clear hal hcv hmkL HB3 HS3 HC3
        generalize w3.alloc (.cells (madeCells #[.int .u8 0] L) 5) = w4 at *
        have HD := Lib.hid (defineM_any S m k D 5 (by omega) true false (zeroB L) (by rw [zeroB_size]; omega) (by omega) w4 HS4.out (by omega) (HE.out.next HB4.out))
        rw [defD_alone D 5 (by omega) (by omega) (zeroB L), zeroB_size] at HD
        by_cases h6 : L ≤ 6144
        · rw [if_pos h6] at HD
          refine HD.out.mono ?_
          rintro e w5 ⟨rfl, ⟨m5, hs5, hsn⟩, ho⟩
          have ht5 : tot (putD (.map []) 5 (zeroB L)) = L := by
            have := putD_tot (.map []) Maps.tidy_empty 5 (zeroB L)
            rw [txAt_none (.map []) 5 rfl, zeroB_size, tot_nil] at this
            omega
          have HSp := Lib.hid (space_any S m5 (k + 1) (putD (.map []) 5 (zeroB L)) w5 hs5 (by omega))
          rw [ht5] at HSp
          have HB5 := Lib.hid (HB4.out.trans (ho.below HB4.out.size (own_far hSB HFM.out)))
          have g6 : ¬ (6144 : Int) < (L : Int) := by omega
          have hw6 : IntKind.i64.wrap (6144 - (L : Int)) = 6144 - (L : Int) := IntWalk.i64_in _ (by omega)
          clear hs5 hsn ho HD
          go_wp2_with fail
          refine HSp.out.mono ?_
          rintro e w6 ⟨rfl, hb6⟩
          have HB6 := Lib.hid (HB5.out.trans (hb6.mono HB5.out.size))
          clear hb6
          go_wp2_with fail
          go_ret
          exact ⟨by simp, HB6.out⟩
        · rw [if_neg h6] at HD
          refine HD.out.mono ?_
          rintro e w5 ⟨rfl, ⟨m5, hs5, hsn⟩, ho⟩
          have HSm := Lib.hid (sameM_any S B m5 m2 (k + 1) k D D w5 hs5 (HC4.out.only ho hBn hmn))
          have HB5 := Lib.hid (HB4.out.trans (ho.below HB4.out.size (own_far hSB HFM.out)))
          have g6 : (6144 : Int) < (L : Int) := by omega
          clear hs5 hsn ho HD
          go_wp2_with fail
          refine HSm.out.mono ?_
          rintro e w6 ⟨⟨v, rfl, hv⟩, hb6⟩
          obtain rfl : v = true := hv.2 (by first | rfl | trivial)
          have HB6 := Lib.hid (HB5.out.trans (hb6.mono HB5.out.size))
          clear hb6
          go_wp2_with fail
          go_ret
          exact ⟨rfl, HB6.out⟩
    · have c1 : ¬ (k : Int) < (ns.length : Int) := by omega
      go_wp2_with fail
      refine (cloneM_any S m k D wr HST.out).mono ?_
      rintro e w3 ⟨⟨B, m2, rfl, hsB, hB, hp⟩, hb⟩
      have hno : ∀ q ∈ ownB S m, q < wr.heap.size := own_lt HST.out
      have hBn : B ∉ ownB S m := fun h => by have := hno _ h; omega
      have hmn : ∀ q, m2 = some q → q ∉ ownB S m := fun q e h => by
        have := hno _ h
        rcases hp with h1 | ⟨q2, h1, h2⟩
        · rw [h1] at e; cases e
        · rw [h1] at e; injection e with e; omega
      have HB3 := Lib.hid (HBW.out.trans (hb.mono HBW.out.size))
      have HS3 := Lib.hid (HST.out.next hb)
      have HC3 := Lib.hid hsB
      clear hsB hb hp hB hno HST HBW
      have hmkL := hmk L (by omega) (by omega)
      have hcv := made_conv w3 L
      go_wp2_with fail
      have hal : Below w3.heap.size w3 (w3.alloc (.cells (madeCells #[.int .u8 0] L) 5)) := (Below.refl _ _).alloc (Nat.le_refl _) _
      have HB4 := Lib.hid (HB3.out.trans (hal.mono HB3.out.size))
      have HS4 := Lib.hid (HS3.out.next hal)
      have HC4 := Lib.hid (HC3.out.next hal)
      clear hal hcv hmkL HB3 HS3 HC3
      generalize w3.alloc (.cells (madeCells #[.int .u8 0] L) 5) = w4 at *
      have HD := Lib.hid (defineM_any S m k D 5 (by omega) true false (zeroB L) (by rw [zeroB_size]; omega) (by omega) w4 HS4.out (by omega) (HE.out.next HB4.out))
      rw [defD_alone D 5 (by omega) (by omega) (zeroB L), zeroB_size] at HD
      by_cases h6 : L ≤ 6144
      · rw [if_pos h6] at HD
        refine HD.out.mono ?_
        rintro e w5 ⟨rfl, ⟨m5, hs5, hsn⟩, ho⟩
        have ht5 : tot (putD (.map []) 5 (zeroB L)) = L := by
          have := putD_tot (.map []) Maps.tidy_empty 5 (zeroB L)
          rw [txAt_none (.map []) 5 rfl, zeroB_size, tot_nil] at this
          omega
        have HSp := Lib.hid (space_any S m5 (k + 1) (putD (.map []) 5 (zeroB L)) w5 hs5 (by omega))
        rw [ht5] at HSp
        have HB5 := Lib.hid (HB4.out.trans (ho.below HB4.out.size (own_far hSB HFM.out)))
        have g6 : ¬ (6144 : Int) < (L : Int) := by omega
        have hw6 : IntKind.i64.wrap (6144 - (L : Int)) = 6144 - (L : Int) := IntWalk.i64_in _ (by omega)
        clear hs5 hsn ho HD
        go_wp2_with fail
        refine HSp.out.mono ?_
        rintro e w6 ⟨rfl, hb6⟩
        have HB6 := Lib.hid (HB5.out.trans (hb6.mono HB5.out.size))
        clear hb6
        go_wp2_with fail
        go_ret
        exact ⟨by simp, HB6.out⟩
      · rw [if_neg h6] at HD
        refine HD.out.mono ?_
        rintro e w5 ⟨rfl, ⟨m5, hs5, hsn⟩, ho⟩
        have HSm := Lib.hid (sameM_any S B m5 m2 (k + 1) k D D w5 hs5 (HC4.out.only ho hBn hmn))
        have HB5 := Lib.hid (HB4.out.trans (ho.below HB4.out.size (own_far hSB HFM.out)))
        have g6 : (6144 : Int) < (L : Int) := by omega
        clear hs5 hsn ho HD
        go_wp2_with fail
        refine HSm.out.mono ?_
        rintro e w6 ⟨⟨v, rfl, hv⟩, hb6⟩
        obtain rfl : v = true := hv.2 (by first | rfl | trivial)
        have HB6 := Lib.hid (HB5.out.trans (hb6.mono HB5.out.size))
        clear hb6
        go_wp2_with fail
        go_ret
        exact ⟨rfl, HB6.out⟩

set_option maxRecDepth 100000 in
/-- What the walk gives, for every argument and every world that holds the table. -/
theorem contract (H : Type) (enc : TypeId × Value → H) (W : World) (base : Nat) (args : Array Value) (ds gs : List (DataW H)) (before : List MemPlace)
    (hval : ∀ (j : Nat) t v, Tryd.f3.params[j]? = some t → args[j]? = some v → Value.okWide Tryd.prog W .any base t v)
    (hW : DataW.Whole enc Tryd.prog Tryd.f3.params.toList Rows.macroFullSpec.vars false W args.toList ds gs before) (hL : laidMetH Tryd.prog Rows.macroFullRow.laid W)
    (hreach : (DataW.weightsEach Tryd.prog (Tryd.f3.params.toList ++ []) (ds ++ gs)).all (· ≤ reachBytes) = true) :
    Calls Tryd.prog 3 args W fun e W' => ∃ v, e = .returned v ∧ Rows.macroFullSpec.post enc Tryd.prog Tryd.f3 false true false false W args v W' := by
  have hW' := hW
  have ht := tenH hL
  have hs := errH hL
  have hlts : ∀ x ∈ before, x.block < W.heap.size := fun x hx => hW'.lt x hx
  obtain ⟨p, q, hA0, hV, rfl, hfz, hnd⟩ := hW
  have hA : DataW.TrodAll enc Tryd.prog W 0 (fun _ => true) true Tryd.f3.params.toList args.toList ds p := hA0
  rw [Tryd.params3] at hA hval hreach
  obtain ⟨v0, vs0, d0, ds0, pp0, qq0, hargs, rfl, rfl, h0, rr0⟩ := trodAll_cons hA
  obtain ⟨v1, vs1, d1, ds1, pp1, qq1, rfl, rfl, rfl, h1, rr1⟩ := trodAll_cons rr0
  obtain ⟨rfl, rfl, rfl⟩ := trodAll_nil rr1
  obtain rfl : args = #[v0, v1] := by cases args; simp_all
  obtain ⟨rfl, rfl⟩ := trodVars_none hV
  obtain ⟨b0, len0, cap0, rfl⟩ := okWide_slice Tryd.underlying22 (hval 0 22 v0 rfl rfl)
  have hin0 := ints_in h0 (fun el sp e => by subst e; exact sized_slice hreach (j := 0) rfl rfl Tryd.underlying22)
  obtain ⟨ns0, hlen0, hm0, hri0⟩ := hin0
  subst hlen0
  obtain ⟨a1, rfl, rfl, rfl, w1⟩ := open_int Tryd.underlying3 (hval 1 3 v1 rfl rfl) h1
  have lo1 := bounds_i64 w1
  clear hA0
  refine (walk b0 cap0 ns0 hm0 a1 lo1 W ht hs hri0).mono fun e W' ⟨he, hb⟩ => ?_
  subst he
  exact ⟨_, rfl, post_law laidOut (by kernel_rfl) (by kernel_rfl) rfl hW' rfl hb⟩

set_option maxRecDepth 100000 in
theorem laid_met (os : Os) : laidMet Tryd.prog Rows.macroFullRow.laid ((laidWorldH os).forCall (fun _ _ => 0) ⟨#[], #[Value.slice none 0 0, Value.int .i64 0], []⟩).memory :=
  laid_metH os _
set_option maxRecDepth 100000 in
theorem reads (os : Os) {H : Type} (enc : TypeId × Value → H) : ∃ places, DataW.whole enc Tryd.prog ((laidWorldH os).forCall (fun _ _ => 0) ⟨#[], #[Value.slice none 0 0, Value.int .i64 0], []⟩).memory Tryd.f3.params.toList Rows.macroFullSpec.vars false (#[Value.slice none 0 0, Value.int .i64 0] : Array Value).toList 8 = some ([.nil, .lit (.int .i64 0)], [], places) :=
  ⟨[], by kernel_rfl⟩

set_option maxRecDepth 100000 in
theorem lifted (os : Os) (started : os.Started) (H : Type) (enc : TypeId × Value → H) (F : Stop.Interp) :
    ReturnsInHanded {} Tryd.checked os 3 .any ((OpenSpec.ofChange Rows.macroFullSpec).preRow enc Tryd.prog Tryd.f3 Rows.macroFullRow.domain false Rows.macroFullRow.laid) (((OpenSpec.ofChange Rows.macroFullSpec).at F).post enc Tryd.prog Tryd.f3 false true false false) := by
  obtain ⟨places, hx⟩ := reads os enc
  refine returnsInHanded_of_row (C := Tryd.checked) (s := OpenSpec.ofChange Rows.macroFullSpec) own started (by kernel_rfl) Tryd.func3
    (witness_row_atRef (enc := enc) (C := Tryd.checked) false (laidWorldH os) #[Value.slice none 0 0, Value.int .i64 0] rfl (by kernel_rfl) (by kernel_rfl) (by kernel_rfl)
      (OpenSpec.preRow_of_cond 8 hx (by kernel_rfl) (fun k hk => by cases hk) (by kernel_rfl) (laid_met os))) ?_
  intro W base args ds gs before hval hW _ _ hreach hL _ _
  exact contract H enc W base args ds gs before hval hW hL hreach

theorem said : Rows.MacroFullSaid :=
  OpenClaim.holds_of_cond 3 Tryd.f3 rfl rfl rfl rfl rfl rfl rfl ⟨rfl, rfl, rfl, rfl, rfl⟩ rfl rfl rfl rfl rfl (by kernel_rfl) Tryd.func3 (by kernel_rfl)
    (of_decide_eq_true (by kernel_rfl)) (by unfold Func.isWrapper; first | (rw [if_pos (by decide +kernel)]; kernel_rfl) | (rw [if_neg (by decide +kernel)]; exact ⟨rfl, rfl⟩))
    (fun os started H enc _ F => by rw [OpenClaim.pre_eq_preRow]; exact lifted os started H enc F)

theorem plain (f : FuncId) (fn : Func) (hf : Tryd.pinned.checked.prog.funcNamed "phosphor/phosphorlaw20.MacroFull" = some f) (hfn : Tryd.pinned.checked.prog.funcs[f]? = some fn) :
    true = Tryd.pinned.checked.prog.looks [] ∧ ∀ (j : Nat) t, fn.params[j]? = some t → Tryd.pinned.checked.prog.wantsStandIn t = false := by
  obtain rfl : f = 3 := Option.some.inj ((show Tryd.prog.funcNamed "phosphor/phosphorlaw20.MacroFull" = some 3 by kernel_rfl).symm.trans hf) |>.symm
  obtain rfl : fn = Tryd.f3 := (Option.some.inj (Tryd.func3.symm.trans hfn)).symm
  refine ⟨by kernel_rfl, fun j t ht => ?_⟩
  rw [Tryd.params3] at ht
  have hm : t ∈ [22, 3] := by simpa using Array.mem_of_getElem? ht
  have hall : ([22, 3].all fun u => !Tryd.prog.wantsStandIn u) = true := by kernel_rfl
  exact (show Tryd.prog.wantsStandIn t = false by simpa using List.all_eq_true.1 hall t hm)

/-- The card. -/
theorem card : Rows.MacroFullCardSaid :=
  Claim7.holds_tied_plain_at .later [] _ _ _ _ said (fun _ h => by cases h) (by kernel_rfl) (fun _ h => by cases h) macroFull_row_tie rfl ⟨rfl, rfl⟩ (by kernel_rfl) rfl plain (by kernel_rfl)
#print axioms card
end Go.Proofs.YtnbbepkkedhhgaaDoor.macroFull

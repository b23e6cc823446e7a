/-
  ModeSets holds, whatever the input: the card of the statement, with the table of the modes tied to the program's text.
-/
import Derived.Test.YtbbimecnobnbeaaDoorCards
import Derived.Test.YtbbimecnobnbeaaDoorTie
import Derived.Test.YtbbimecnobnbeaaDoorFrameN
import Derived.Test.YtbbimecnobnbeaaDoorFrameB
import Derived.Test.YtbbimecnobnbeaaDoorModD
import Derived.Test.YtbbimecnobnbeaaDoorMixE
import Derived.Test.YtbbimecnobnbeaaDoorFrameBo
namespace Go.Proofs.YtbbimecnobnbeaaDoor.modeSets
open Go.ChangeShapes Go.WideShapes Go.ChangeAt Go.RowKit
open Go.ChangeMaps (open_string)

set_option maxRecDepth 100000 in
set_option maxHeartbeats 8000000 in
theorem walk (m0 : Nat) (hm0 : m0 < 2 ^ 32) (A : Option Addr) (cap : Nat) (xs : List Int) (_hxs : xs.length ≤ 17592186043904) (A2 : Option Addr) (cap2 : Nat) (fl : List Bool) (_hfl : fl.length ≤ maxLen) (w : World) (ht : Mods w) (hrx : RInts w A xs) (hrf : RBo w A2 fl) :
    Calls Tryd.prog 4 #[.int .u32 m0, .slice A xs.length cap, .slice A2 fl.length cap2] w fun e w' => e = .returned (.bool true) ∧ Below w.heap.size w w' := by
  have HAw := Lib.hid (fun W h => awakeM_any W h)
  have HC : Hid (∀ x : Nat, x < 2 ^ 32 → ∀ W, Calls Tryd.prog 16 #[.int .u32 x] W fun e w' => e = .returned (.int .u32 ((x % 131072 : Nat) : Int)) ∧ W = w') := Lib.hid clear_any
  have HH : Hid (∀ x : Nat, x < 2 ^ 32 → ∀ (z : Int) W, Calls Tryd.prog 14 #[.int .u32 x, .int .i64 z] W fun e w' => e = .returned (.bool (hasN x z)) ∧ W = w') := Lib.hid has_any
  have HRH : Hid (∀ x : Nat, x < 2 ^ 32 → ∀ (z : Int) W, Calls Tryd.prog 15 #[.int .i64 x, .int .i64 z] W fun e w' => e = .returned (.bool (hasN x z)) ∧ W = w') := Lib.hid rhas_any
  have HW : Hid (∀ (x : Nat) (z : Int) (on : Bool) W, Calls Tryd.prog 12 #[.int .u32 x, .int .i64 z, .bool on] W fun e w' => e = .returned (.int .u32 (withN x z on : Nat)) ∧ W = w') := Lib.hid with_any
  have HRW : Hid (∀ x : Nat, x < 2 ^ 32 → ∀ (z : Int) (on : Bool) W, Calls Tryd.prog 13 #[.int .i64 x, .int .i64 z, .bool on] W fun e w' => e = .returned (.int .i64 (withN x z on : Nat)) ∧ W = w') := Lib.hid rwith_any
  have HG : Hid (∀ W, Mods W → Calls Tryd.prog 17 #[] W fun e w' => e = .returned (.int .u32 2948) ∧ Below W.heap.size W w') := Lib.hid mbegin_any
  have HRG := Lib.hid (fun W => rbegin_any W)
  have HT := Lib.hid ht; have HRX := Lib.hid hrx; have HRF := Lib.hid hrf
  have hw0 : IntKind.i64.wrap (m0 : Int) = m0 := IntWalk.i64_in _ (by omega)
  clear ht hrx hrf
  go_enter Tryd.func4, Tryd.ntmps4
  go_wp2_with fail
  refine (HAw.out _ HT.out).mono ?_
  rintro e w1 ⟨rfl, hb1⟩
  have HT1 := Lib.hid (HT.out.next hb1); have HB1 := Lib.hid hb1; have HRX1 := Lib.hid (HRX.out.next hb1); have HRF1 := Lib.hid (HRF.out.next hb1)
  clear hb1
  go_wp2_with fail
  go_loopw [0, 7, 8] (fun mm ww i wr => ∃ (k x : Nat), k ≤ 40 ∧ x < 2 ^ 32 ∧ mm = .int .u32 x ∧ ww = .int .i64 x ∧ i = .int .i64 k ∧ Mods wr ∧ RInts wr A xs ∧ RBo wr A2 fl ∧ Below w.heap.size w wr) (fun _ _ i _ => 40 - (intOf i).toNat)
  case atStart => exact ⟨0, m0, by omega, hm0, rfl, rfl, rfl, HT1.out, HRX1.out, HRF1.out, HB1.out⟩
  case round =>
    obtain ⟨k, x, hk, hx, rfl, rfl, rfl, ht, hrx, hrf, hb⟩ := hrel
    have HTk := Lib.hid ht; have HRXk := Lib.hid hrx; have HRFk := Lib.hid hrf; have HBk := Lib.hid hb
    clear ht hrx hrf hb
    have hwx : IntKind.i64.wrap (x : Int) = x := IntWalk.i64_in _ (by omega)
    have hmod : (x : Int).tmod 131072 = ((x % 131072 : Nat) : Int) := by rw [Int.tmod_eq_emod_of_nonneg (Int.natCast_nonneg _)]; rfl
    by_cases hgo : k < xs.length ∧ k < fl.length ∧ k < 40
    · obtain ⟨g1, g2, g3⟩ := hgo
      obtain ⟨ax, rfl, hax, cx⟩ := HRXk.out.at_ g1
      obtain ⟨af, rfl, haf, cf⟩ := HRFk.out.at_ g2
      have HKk : Hid (IntKind.i64.wrap (k : Int) = (k : Int)) := Lib.hid (IntWalk.i64_in _ (by omega))
      have h40 : decide ((k : Int) < 40) = true := by simp; omega
      have hwk1 : IntKind.i64.wrap ((k : Int) + 1) = (k : Int) + 1 := IntWalk.i64_in _ (by omega)
      generalize hz : xs[k] = z at *
      generalize hbb : fl[k] = b at *
      have HAt : Hid (∀ w', Below wr.heap.size wr w' → w'.cell? (ax.add k) = some (.int .i64 z) ∧ w'.cell? (af.add k) = some (.bool b)) := Lib.hid (fun w' ho => ⟨(ho.cell (by rw [block_of_add]; exact hax)).trans cx, (ho.cell (by rw [block_of_add]; exact haf)).trans cf⟩)
      clear cx cf hax haf
      have HWk := Lib.hid (HW.out x z b); have HRWk := Lib.hid (HRW.out x hx z b)
      have hy : withN x z b < 2 ^ 32 := withN_lt x z b
      have HJ : Hid (∀ j : Int, j ≠ z → hasN (withN x z b) j = hasN x j) := Lib.hid (fun j hj => by rw [hasN_with, if_neg (fun h => hj h.1.symm)])
      generalize withN x z b = y at *
      have HHy := Lib.hid (HH.out y hy); have HRHy := Lib.hid (HRH.out y hy); have HHx := Lib.hid (HH.out x hx)
      have HHz := Lib.hid (HHy.out z); have HRHz := Lib.hid (HRHy.out z)
      have hwy : IntKind.i64.wrap (y : Int) = y := IntWalk.i64_in _ (by omega)
      have HY := Lib.hid hy
      generalize hasN y z = hyz at *
      have HK40 : Hid (k < 40) := Lib.hid g3
      clear HW HRW HH HRH HC hz hbb hk hx hy HG HRG hmod g3
      go_wp2_with fail
      refine wp_region_mix_lit (by kernel_rfl) [(9, .call (.int .u32 (y : Nat)))] (by kernel_rfl) (by kernel_rfl) (by kernel_rfl) (by rfl) (by simp [apartK] <;> omega) (by simp [startK]) (by simp [stabK]) (⟨fun _ => undef, by simp [okK]⟩) (fun β hβ => ?_)
      repeat (
        refine lex_val (v := ?_) rfl rfl (fun w' hf => ?_) ?_
        rotate_left
        · have hwk := HKk.out; obtain ⟨d1, d2⟩ := HAt.out w' hf.only.below0; go_simp
          try rfl
        try simp only [Act.put, List.setIfInBounds_toArray, List.set_cons_zero, List.set_cons_succ])
      refine lex_call (f := 12) (args := ?_) rfl rfl (fun w' hf => ?_) (fun w' hf => ?_) ?_
      rotate_left
      · go_simp
        try rfl
      · exact (HWk.out w').mono (fun _ _ ⟨h1, h2⟩ => ⟨h1, h2 ▸ Below.refl _ _⟩)
      try simp only [Act.put, List.setIfInBounds_toArray, List.set_cons_zero, List.set_cons_succ]
      repeat (
        refine lex_val (v := ?_) rfl rfl (fun w' hf => ?_) ?_
        rotate_left
        · go_simp
          try rfl
        try simp only [Act.put, List.setIfInBounds_toArray, List.set_cons_zero, List.set_cons_succ])
      refine lex_nil fun w2 he => ?_
      have HE2 := Lib.hid he.only.below0
      have HAt2 : Hid (∀ w', Below w2.heap.size w2 w' → w'.cell? (ax.add k) = some (.int .i64 z) ∧ w'.cell? (af.add k) = some (.bool b)) := Lib.hid (fun w' ho => HAt.out w' (HE2.out.trans (ho.mono HE2.out.size)))
      clear he hβ
      go_wp2_with fail
      refine wp_region_mix_lit (by kernel_rfl) [(9, .call (.int .i64 (y : Nat)))] (by kernel_rfl) (by kernel_rfl) (by kernel_rfl) (by rfl) (by simp [apartK] <;> omega) (by simp [startK]) (by simp [stabK]) (⟨fun _ => undef, by simp [okK]⟩) (fun β hβ => ?_)
      repeat (
        refine lex_val (v := ?_) rfl rfl (fun w' hf => ?_) ?_
        rotate_left
        · have hwk := HKk.out; obtain ⟨d1, d2⟩ := HAt2.out w' hf.only.below0; go_simp
          try rfl
        try simp only [Act.put, List.setIfInBounds_toArray, List.set_cons_zero, List.set_cons_succ])
      refine lex_call (f := 13) (args := ?_) rfl rfl (fun w' hf => ?_) (fun w' hf => ?_) ?_
      rotate_left
      · go_simp
        try rfl
      · exact (HRWk.out w').mono (fun _ _ ⟨h1, h2⟩ => ⟨h1, h2 ▸ Below.refl _ _⟩)
      try simp only [Act.put, List.setIfInBounds_toArray, List.set_cons_zero, List.set_cons_succ]
      repeat (
        refine lex_val (v := ?_) rfl rfl (fun w' hf => ?_) ?_
        rotate_left
        · go_simp
          try rfl
        try simp only [Act.put, List.setIfInBounds_toArray, List.set_cons_zero, List.set_cons_succ])
      refine lex_nil fun w3 he => ?_
      have HE3 := Lib.hid (HE2.out.trans (he.only.below0.mono HE2.out.size))
      have HAt3 : Hid (∀ w', Below w3.heap.size w3 w' → w'.cell? (ax.add k) = some (.int .i64 z) ∧ w'.cell? (af.add k) = some (.bool b)) := Lib.hid (fun w' ho => HAt.out w' (HE3.out.trans (ho.mono HE3.out.size)))
      clear he hβ
      go_wp2_with fail
      refine wp_region_mix_lit (by kernel_rfl) [(10, .call (.bool hyz)), (16, .call (.bool hyz))] (by kernel_rfl) (by kernel_rfl) (by kernel_rfl) (by rfl) (by simp [apartK] <;> omega) (by simp [startK]) (by simp [stabK]) (⟨fun _ => undef, by simp [okK]⟩) (fun β hβ => ?_)
      repeat (
        refine lex_val (v := ?_) rfl rfl (fun w' hf => ?_) ?_
        rotate_left
        · have hwk := HKk.out; have hwy2 := hwy; obtain ⟨d1, d2⟩ := HAt3.out w' hf.only.below0; go_simp
          try rfl
        try simp only [Act.put, List.setIfInBounds_toArray, List.set_cons_zero, List.set_cons_succ])
      refine lex_call (f := 14) (args := ?_) rfl rfl (fun w' hf => ?_) (fun w' hf => ?_) ?_
      rotate_left
      · go_simp
        try rfl
      · exact (HHz.out w').mono (fun _ _ ⟨h1, h2⟩ => ⟨h1, h2 ▸ Below.refl _ _⟩)
      try simp only [Act.put, List.setIfInBounds_toArray, List.set_cons_zero, List.set_cons_succ]
      repeat (
        refine lex_val (v := ?_) rfl rfl (fun w' hf => ?_) ?_
        rotate_left
        · have hwk := HKk.out; obtain ⟨d1, d2⟩ := HAt3.out w' hf.only.below0; go_simp
          try rfl
        try simp only [Act.put, List.setIfInBounds_toArray, List.set_cons_zero, List.set_cons_succ])
      refine lex_call (f := 15) (args := ?_) rfl rfl (fun w' hf => ?_) (fun w' hf => ?_) ?_
      rotate_left
      · go_simp
        try rfl
      · exact (HRHz.out w').mono (fun _ _ ⟨h1, h2⟩ => ⟨h1, h2 ▸ Below.refl _ _⟩)
      try simp only [Act.put, List.setIfInBounds_toArray, List.set_cons_zero, List.set_cons_succ]
      repeat (
        refine lex_val (v := ?_) rfl rfl (fun w' hf => ?_) ?_
        rotate_left
        · go_simp
          try rfl
        try simp only [Act.put, List.setIfInBounds_toArray, List.set_cons_zero, List.set_cons_succ])
      refine lex_nil fun w4 he => ?_
      have HE4 := Lib.hid (HE3.out.trans (he.only.below0.mono HE3.out.size))
      clear he hβ
      go_wp2_with fail
      have HT4 := Lib.hid (HTk.out.next HE4.out); have HRX4 := Lib.hid (HRXk.out.next HE4.out); have HRF4 := Lib.hid (HRFk.out.next HE4.out); have HB4 := Lib.hid (HBk.out.trans (HE4.out.mono HBk.out.size))
      have hc4 := (HAt.out w4 HE4.out).1
      go_loopw [10] (fun j wr' => ∃ i : Nat, i ≤ 17 ∧ j = .int .i64 i ∧ wr' = w4) (fun j _ => 17 - (intOf j).toNat)
      case atStart => exact ⟨0, by omega, rfl, rfl⟩
      case round =>
        obtain ⟨i, hi, rfl, rfl⟩ := hrel
        by_cases hlt : i < 17
        · have hd : decide ((i : Int) < 17) = true := by simp; omega
          have hwi : IntKind.i64.wrap ((i : Int) + 1) = (i : Int) + 1 := IntWalk.i64_in _ (by omega)
          have hwk := HKk.out
          by_cases he : (i : Int) = z
          · have hne : ((i : Int) != z) = false := by simpa using he
            clear he
            go_wp2_with fail
            go_roundw
            case rel => exact ⟨i + 1, by omega, by first | rfl | go_num, by first | rfl | trivial⟩
            case measure => simp [intOf]; omega
          · have hne : ((i : Int) != z) = true := by simpa using he
            have HH1 := Lib.hid (HHy.out i); have HH2 := Lib.hid (HHx.out i)
            rw [HJ.out i he] at HH1
            generalize hasN x i = hxi at *
            clear he
            go_wp2_with fail
            refine (HH1.out _).mono ?_
            rintro e w5 ⟨rfl, rfl⟩
            go_wp2_with fail
            refine (HH2.out _).mono ?_
            rintro e w5 ⟨rfl, rfl⟩
            go_wp2_with fail
            go_roundw
            case rel => exact ⟨i + 1, by omega, by first | rfl | go_num, by first | rfl | trivial⟩
            case measure => simp [intOf]; omega
        · obtain rfl : i = 17 := by omega
          go_wp2_with fail
          go_roundw
          case rel => exact ⟨k + 1, y, HK40.out, HY.out, by first | rfl | trivial, by first | rfl | trivial, by first | rfl | go_num, HT4.out, HRX4.out, HRF4.out, HB4.out⟩
          case measure => have := HK40.out; simp [intOf]; omega
    · have hex : (k < xs.length) = False ∨ ((k < xs.length) = True ∧ (k < fl.length) = False) ∨ ((k < xs.length) = True ∧ (k < fl.length) = True ∧ ((k : Int) < 40) = False) := by
        by_cases a1 : k < xs.length
        · by_cases a2 : k < fl.length
          · exact .inr (.inr ⟨eq_true a1, eq_true a2, eq_false (by omega)⟩)
          · exact .inr (.inl ⟨eq_true a1, eq_false a2⟩)
        · exact .inl (eq_false a1)
      have HCx := Lib.hid (HC.out x hx)
      have hwc : IntKind.i64.wrap ((x % 131072 : Nat) : Int) = ((x % 131072 : Nat) : Int) := IntWalk.i64_in _ (by omega)
      clear hgo HH HRH HW HRW hx
      generalize x % 131072 = c at *
      rcases hex with h1 | ⟨h1, h2⟩ | ⟨h1, h2, h3⟩
      all_goals
        go_wp2_with fail
        refine (HCx.out _).mono ?_
        rintro e w2 ⟨rfl, rfl⟩
        go_wp2_with fail
        refine (HG.out _ HTk.out).mono ?_
        rintro e w2 ⟨rfl, hb2⟩
        have HB2 := Lib.hid (HBk.out.trans (hb2.mono HBk.out.size))
        clear hb2
        go_wp2_with fail
        refine (HRG.out _).mono ?_
        rintro e w3 ⟨rfl, rfl⟩
        go_wp2_with fail
        go_ret
        exact ⟨rfl, HB2.out⟩

set_option maxRecDepth 100000 in
/-- What the walk gives, for every argument and every world that holds the table. -/
theorem contract (H : Type) (enc : TypeId × Value → H) (W : World) (base : Nat) (args : Array Value) (ds gs : List (DataW H)) (before : List MemPlace)
    (hval : ∀ (j : Nat) t v, Tryd.f4.params[j]? = some t → args[j]? = some v → Value.okWide Tryd.prog W .any base t v)
    (hW : DataW.Whole enc Tryd.prog Tryd.f4.params.toList Rows.modeSetsSpec.vars false W args.toList ds gs before) (hL : laidMetH Tryd.prog Rows.modeSetsRow.laid W)
    (hreach : (DataW.weightsEach Tryd.prog (Tryd.f4.params.toList ++ []) (ds ++ gs)).all (· ≤ reachBytes) = true) :
    Calls Tryd.prog 4 args W fun e W' => ∃ v, e = .returned v ∧ Rows.modeSetsSpec.post enc Tryd.prog Tryd.f4 false true false false W args v W' := by
  have hW' := hW
  have ht := modsA hL
  have hlts : ∀ x ∈ before, x.block < W.heap.size := fun x hx => hW'.lt x hx
  obtain ⟨p, q, hA0, hV, rfl, hfz, hnd⟩ := hW
  have hA : DataW.TrodAll enc Tryd.prog W 0 (fun _ => true) true Tryd.f4.params.toList args.toList ds p := hA0
  rw [Tryd.params4] at hA hval hreach
  obtain ⟨v0, vs0, d0, ds0, pp0, qq0, hargs, rfl, rfl, h0, rr0⟩ := trodAll_cons hA
  obtain ⟨v1, vs1, d1, ds1, pp1, qq1, rfl, rfl, rfl, h1, rr1⟩ := trodAll_cons rr0
  obtain ⟨v2, vs2, d2, ds2, pp2, qq2, rfl, rfl, rfl, h2, rr2⟩ := trodAll_cons rr1
  obtain ⟨rfl, rfl, rfl⟩ := trodAll_nil rr2
  obtain rfl : args = #[v0, v1, v2] := by cases args; simp_all
  obtain ⟨rfl, rfl⟩ := trodVars_none hV
  obtain ⟨z0, rfl, rfl, rfl, w0⟩ := open_int Tryd.underlying33 (hval 0 33 v0 rfl rfl) h0
  obtain ⟨lo0, hi0⟩ := bounds_u32 w0
  obtain ⟨a0, rfl⟩ : ∃ a : Nat, z0 = (a : Int) := ⟨z0.toNat, by omega⟩
  obtain ⟨b1, len1, cap1, rfl⟩ := okWide_slice Tryd.underlying34 (hval 1 34 v1 rfl rfl)
  have hin1 := ints_in h1 (fun el sp e => by subst e; exact sized_slice hreach (j := 1) rfl rfl Tryd.underlying34)
  obtain ⟨ns1, hlen1, hm1, hri1⟩ := hin1
  subst hlen1
  obtain ⟨b2, len2, cap2, rfl⟩ := okWide_slice Tryd.underlying35 (hval 2 35 v2 rfl rfl)
  obtain ⟨l2, hlen2, hm2, hri2⟩ := bools_in h2
  subst hlen2
  clear hA0
  refine (walk a0 (by omega) b1 cap1 ns1 hm1 b2 cap2 l2 hm2 W ht hri1 hri2).mono fun e W' ⟨he, hb⟩ => ?_
  subst he
  exact ⟨_, rfl, post_law laidOut (by kernel_rfl) (by kernel_rfl) rfl hW' rfl hb⟩

set_option maxRecDepth 100000 in
theorem laid_met (os : Os) : laidMet Tryd.prog Rows.modeSetsRow.laid ((laidWorld os).forCall (fun _ _ => 0) ⟨#[], #[Value.int .u32 0, Value.slice none 0 0, Value.slice none 0 0], []⟩).memory :=
  laidMet_of_run' 8 (by kernel_rfl) (by kernel_rfl)
set_option maxRecDepth 100000 in
theorem reads (os : Os) {H : Type} (enc : TypeId × Value → H) : ∃ places, DataW.whole enc Tryd.prog ((laidWorld os).forCall (fun _ _ => 0) ⟨#[], #[Value.int .u32 0, Value.slice none 0 0, Value.slice none 0 0], []⟩).memory Tryd.f4.params.toList Rows.modeSetsSpec.vars false (#[Value.int .u32 0, Value.slice none 0 0, Value.slice none 0 0] : Array Value).toList 8 = some ([.lit (.int .u32 0), .nil, .nil], [], places) :=
  ⟨[], by kernel_rfl⟩

set_option maxRecDepth 100000 in
theorem lifted (os : Os) (started : os.Started) (H : Type) (enc : TypeId × Value → H) (F : Stop.Interp) :
    ReturnsInHanded {} Tryd.checked os 4 .any ((OpenSpec.ofChange Rows.modeSetsSpec).preRow enc Tryd.prog Tryd.f4 Rows.modeSetsRow.domain false Rows.modeSetsRow.laid) (((OpenSpec.ofChange Rows.modeSetsSpec).at F).post enc Tryd.prog Tryd.f4 false true false false) := by
  obtain ⟨places, hx⟩ := reads os enc
  refine returnsInHanded_of_row (C := Tryd.checked) (s := OpenSpec.ofChange Rows.modeSetsSpec) own started (by kernel_rfl) Tryd.func4
    (witness_row_at (enc := enc) (C := Tryd.checked) false (laidWorld os) #[Value.int .u32 0, Value.slice none 0 0, Value.slice none 0 0] rfl (by kernel_rfl) (by kernel_rfl) (by kernel_rfl)
      (OpenSpec.preRow_of_cond 8 hx (by kernel_rfl) (fun k hk => by cases hk) (by kernel_rfl) (laid_met os))) ?_
  intro W base args ds gs before hval hW _ _ hreach hL _ _
  exact contract H enc W base args ds gs before hval hW hL hreach

theorem said : Rows.ModeSetsSaid :=
  OpenClaim.holds_of_cond 4 Tryd.f4 rfl rfl rfl rfl rfl rfl rfl ⟨rfl, rfl, rfl, rfl, rfl⟩ rfl rfl rfl rfl rfl (by kernel_rfl) Tryd.func4 (by kernel_rfl)
    (of_decide_eq_true (by kernel_rfl)) (by unfold Func.isWrapper; first | (rw [if_pos (by decide +kernel)]; kernel_rfl) | (rw [if_neg (by decide +kernel)]; exact ⟨rfl, rfl⟩))
    (fun os started H enc _ F => by rw [OpenClaim.pre_eq_preRow]; exact lifted os started H enc F)

theorem plain (f : FuncId) (fn : Func) (hf : Tryd.pinned.checked.prog.funcNamed "phosphor/phosphorlaw17.ModeSets" = some f) (hfn : Tryd.pinned.checked.prog.funcs[f]? = some fn) :
    false = Tryd.pinned.checked.prog.looks [] ∧ ∀ (j : Nat) t, fn.params[j]? = some t → Tryd.pinned.checked.prog.wantsStandIn t = false := by
  obtain rfl : f = 4 := Option.some.inj ((show Tryd.prog.funcNamed "phosphor/phosphorlaw17.ModeSets" = some 4 by kernel_rfl).symm.trans hf) |>.symm
  obtain rfl : fn = Tryd.f4 := (Option.some.inj (Tryd.func4.symm.trans hfn)).symm
  refine ⟨by kernel_rfl, fun j t ht => ?_⟩
  rw [Tryd.params4] at ht
  have hm : t ∈ [33, 34, 35] := by simpa using Array.mem_of_getElem? ht
  have hall : ([33, 34, 35].all fun u => !Tryd.prog.wantsStandIn u) = true := by kernel_rfl
  exact (show Tryd.prog.wantsStandIn t = false by simpa using List.all_eq_true.1 hall t hm)

/-- The card. -/
theorem card : Rows.ModeSetsCardSaid :=
  Claim7.holds_tied_plain_at .later [] _ _ _ _ said (fun _ h => by cases h) (by kernel_rfl) (fun _ h => by cases h) modeSets_row_tie rfl ⟨rfl, rfl⟩ (by kernel_rfl) rfl plain (by kernel_rfl)
#print axioms card
end Go.Proofs.YtbbimecnobnbeaaDoor.modeSets

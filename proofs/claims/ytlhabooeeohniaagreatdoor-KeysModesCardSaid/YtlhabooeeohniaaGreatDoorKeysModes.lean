/-
  KeysModes holds, whatever the input: the card of the statement, with the library's tables, its two errors and the keys' two tables of numbers tied to the program's text.
-/
import Derived.Test.YtlhabooeeohniaaGreatDoorCards
import Derived.Test.YtlhabooeeohniaaGreatDoorTie
import Derived.Test.YtlhabooeeohniaaGreatDoorFrameKd
import Derived.Test.YtlhabooeeohniaaGreatDoorKeyJ
import Derived.Test.YtlhabooeeohniaaGreatDoorFrameKb
namespace Go.Proofs.YtlhabooeeohniaaGreatDoor.keysModes
open Go.ChangeShapes Go.WideShapes Go.ChangeAt Go.RowKit
open Go.ChangeMaps (open_string)

set_option maxRecDepth 100000 in
set_option maxHeartbeats 16000000 in
theorem walk (k : Int) (c : Nat) (sh ct : Bool) (hc : c < 256) (m : Nat) (hm : m < 4294967296) (lv : Int) (eg : Bool) (s : ByteArray) (o : Nat) (_ho : o < 4294967296) (w : World) (he : KEnv w) :
    Calls Tryz.prog 3 #[.agg #[.int .i64 k, .int .u8 (c : Int), .bool sh, .bool ct], .agg #[.int .u32 (m : Int), .int .i64 lv, .bool eg, .string s], .int .u32 (o : Int)] w fun e w' => e = .returned (.bool true) ∧ Below w.heap.size w w' := by
  have HE := Lib.hid he
  have b0 := (Blk.new w 23 #[.int .i64 k, .int .u8 (c : Int), .bool sh, .bool ct]).alloc (.cells #[.int .u32 (m : Int), .int .i64 lv, .bool eg, .string s] 27)
  have b1 := Blk.new (w.alloc (.cells #[.int .i64 k, .int .u8 (c : Int), .bool sh, .bool ct] 23)) 27 #[.int .u32 (m : Int), .int .i64 lv, .bool eg, .string s]
  rw [World.size_alloc] at b1
  have hB0 : Below w.heap.size w ((w.alloc (.cells #[.int .i64 k, .int .u8 (c : Int), .bool sh, .bool ct] 23)).alloc (.cells #[.int .u32 (m : Int), .int .i64 lv, .bool eg, .string s] 27)) := ((Below.refl _ _).alloc (Nat.le_refl _) _).alloc (by simp) _
  have hM5 := mixM_lt m o 5 (by omega)
  have HC := Lib.hid hc; have HM := Lib.hid (show m < 2 ^ 32 from hm); have HM5 := Lib.hid hM5
  have HH := Lib.hid (fun (j : Nat) W => has_any m hm (nmK j) W)
  have HW := Lib.hid (fun (j : Nat) W => with_any (mixM m o j) (nmK j) (hasN m (nmK j)) W)
  have HAw := Lib.hid (keyAwake_any _ (HE.out.next hB0))
  have HBw0 := Lib.hid hB0; have Hb0 := Lib.hid b0; have Hb1 := Lib.hid b1
  clear he hc hm hB0 b0 b1 _ho hM5
  go_enter Tryz.func3, Tryz.ntmps3
  go_upto_region 1 with fail
  generalize ((w.alloc (.cells #[.int .i64 k, .int .u8 (c : Int), .bool sh, .bool ct] 23)).alloc (.cells #[.int .u32 (m : Int), .int .i64 lv, .bool eg, .string s] 27)) = W0 at *
  --#1
  go_wp2_with fail
  refine HAw.out.mono ?_
  rintro e w1 ⟨rfl, hb⟩
  have Hc0 := Lib.hid ((Hb0.out.next hb).alloc (.cells #[.int .i64 0, .int .i64 3, .int .i64 4, .int .i64 12, .int .i64 13] 29))
  have Hc1 := Lib.hid ((Hb1.out.next hb).alloc (.cells #[.int .i64 0, .int .i64 3, .int .i64 4, .int .i64 12, .int .i64 13] 29))
  have Hc2 := Lib.hid (Blk.new w1 29 #[.int .i64 0, .int .i64 3, .int .i64 4, .int .i64 12, .int .i64 13])
  have HB1 := Lib.hid ((HBw0.out.trans (hb.mono HBw0.out.size)).alloc (HBw0.out.trans (hb.mono HBw0.out.size)).size (.cells #[.int .i64 0, .int .i64 3, .int .i64 4, .int .i64 12, .int .i64 13] 29))
  clear hb HAw Hb0 Hb1 HBw0
  --#2
  go_upto_region 4 with fail
  generalize (w1.alloc (.cells #[.int .i64 0, .int .i64 3, .int .i64 4, .int .i64 12, .int .i64 13] 29)) = W2 at *
  have q0 := Hc1.out.cell 0
  have HN : Hid (∀ j : Nat, j < 5 → W2.cell? ⟨w1.heap.size, j, none⟩ = some (.int .i64 (nmK j))) := Lib.hid (fun j hj => by
    rw [Hc2.out.cell j]
    rcases (by omega : j = 0 ∨ j = 1 ∨ j = 2 ∨ j = 3 ∨ j = 4) with rfl | rfl | rfl | rfl | rfl <;> rfl)
  have HTx := Lib.hid (textsK_any m lv eg s W2 (HE.out.next HB1.out))
  --#3
  go_loopw [2, 14] (fun oo i wr => ∃ (j : Nat), j ≤ 5 ∧ i = .int .i64 j ∧ oo = .int .u32 (mixM m o j : Nat) ∧ wr = W2) (fun _ i _ => 5 - (intOf i).toNat)
  case atStart => exact ⟨0, by omega, by simp, rfl, rfl⟩
  case round =>
    obtain ⟨j, hj, rfl, rfl, rfl⟩ := hrel
    by_cases hlt : j < 5
    · have m1 : ((j : Int) < 5) = True := eq_true (by omega)
      have m0 : (0 : Int) ≤ (j : Int) := by omega
      have hwj : IntKind.i64.wrap ((j : Int) + 1) = (j : Int) + 1 := IntWalk.i64_in _ (by omega)
      have hcl := HN.out j hlt
      --#4
      go_wp2_with fail
      refine (HH.out j _).mono ?_
      rintro e w3 ⟨rfl, rfl⟩
      --#5
      go_wp2_with fail
      refine (HW.out j _).mono ?_
      rintro e w3 ⟨rfl, rfl⟩
      go_wp2_with fail
      go_roundw
      case rel => exact ⟨j + 1, by omega, by go_num, by rw [mixM_next], trivial⟩
      case measure => simp [intOf]; omega
    · obtain rfl : j = 5 := by omega
      have m1 : (((5 : Nat) : Int) < 5) = False := eq_false (by omega)
      have q1 := Hc1.out.cell 1; have q2 := Hc1.out.cell 2; have q3 := Hc1.out.cell 3
      clear hj hlt
      --#6
      go_wp2_with fail
      refine HTx.out.mono ?_
      rintro e w3 ⟨⟨K, T, rfl, hKz, hk⟩, hb⟩
      have Hd0 := Lib.hid (Hc0.out.next hb); have Hd1 := Lib.hid (Hc1.out.next hb)
      have HB3 := Lib.hid (HB1.out.trans (hb.mono HB1.out.size))
      have HKW := Lib.hid ((HE.out.next HB3.out).key hk)
      obtain ⟨R, hR⟩ : ∃ R, R = encP k c sh ct m lv eg T := ⟨_, rfl⟩
      have H1 := Lib.hid (fun W (hW : Below w3.heap.size w3 W) => enc_any k c sh ct m lv eg K T false HC.out HM.out W (HKW.out.next hW))
      have H2 := Lib.hid (fun W (hW : Below w3.heap.size w3 W) => enc_any k c sh ct (mixM m o 5) lv eg K T false HC.out HM5.out W (HKW.out.next hW))
      rw [encP_modes, ← hR] at H2
      rw [← hR] at H1
      generalize mixM m o 5 = M5 at *
      clear hb hk HTx hKz q0 q1 q2 q3 HN HH HW Hc0 Hc1 Hc2 hR HB1 m1
      go_upto_region 9 with fail
      --#7
      refine wp_region_mix_lit (by kernel_rfl) [(1, .call (.agg #[.int .i64 k, .int .u8 (c : Int), .bool sh, .bool ct])), (9, .letter (KyP R.length) (KyF w3.heap.size R)), (12, .call (.agg #[.int .i64 k, .int .u8 (c : Int), .bool sh, .bool ct])), (19, .letter (KyP R.length) (KyF w3.heap.size R))] (by kernel_rfl) (by kernel_rfl) (by kernel_rfl) (by rfl) (by simp [apartK] <;> omega) (by simp [startK]) (by simp only [List.forall_mem_cons]; exact ⟨trivial, kyF_stab _ _ _ (by simp [boxes, Kind.boxed]), trivial, kyF_stab _ _ _ (by simp [boxes, Kind.boxed]), by simp⟩) (⟨fun _ => .slice none R.length 0, by simp only [List.forall_mem_cons]; exact ⟨trivial, ⟨none, 0, rfl⟩, trivial, ⟨none, 0, rfl⟩, by simp⟩⟩) (fun β hβ => ?_)
      obtain ⟨A1, c1, e1⟩ := (hβ 9 : KyP R.length (β 9))
      obtain ⟨A2, c2, e2⟩ := (hβ 19 : KyP R.length (β 19))
      --#8
      refine lex_val (v := ?_) rfl rfl (fun w' hf => ?_) ?_
      rotate_left
      · have hb := Hd0.out.next hf.only.below0; have q0 := hb.cell 0; have q1 := hb.cell 1; have q2 := hb.cell 2; have q3 := hb.cell 3; go_simp
        try rfl
      try simp only [Act.put, List.setIfInBounds_toArray, List.set_cons_zero, List.set_cons_succ]
      refine lex_call (f := 10) (args := ?_) rfl rfl (fun w' hf => ?_) (fun w' hf => ?_) ?_
      rotate_left
      · go_simp
        try rfl
      · exact (ownK_any k c sh ct w').mono fun e w2 ⟨he, hw⟩ => ⟨he, hw⟩
      try simp only [Act.put, List.setIfInBounds_toArray, List.set_cons_zero, List.set_cons_succ]
      --#9
      refine lex_val (v := ?_) rfl rfl (fun w' hf => ?_) ?_
      rotate_left
      · have hb := Hd1.out.next hf.only.below0; have q0 := hb.cell 0; have q1 := hb.cell 1; have q2 := hb.cell 2; have q3 := hb.cell 3; go_simp
        try rfl
      try simp only [Act.put, List.setIfInBounds_toArray, List.set_cons_zero, List.set_cons_succ]
      refine lex_val (v := ?_) rfl rfl (fun w' hf => ?_) ?_
      rotate_left
      · have hb := Hd1.out.next hf.only.below0; have q0 := hb.cell 0; have q1 := hb.cell 1; have q2 := hb.cell 2; have q3 := hb.cell 3; go_simp
        try rfl
      try simp only [Act.put, List.setIfInBounds_toArray, List.set_cons_zero, List.set_cons_succ]
      refine lex_val (v := ?_) rfl rfl (fun w' hf => ?_) ?_
      rotate_left
      · have hb := Hd1.out.next hf.only.below0; have q0 := hb.cell 0; have q1 := hb.cell 1; have q2 := hb.cell 2; have q3 := hb.cell 3; go_simp
        try rfl
      try simp only [Act.put, List.setIfInBounds_toArray, List.set_cons_zero, List.set_cons_succ]
      refine lex_val (v := ?_) rfl rfl (fun w' hf => ?_) ?_
      rotate_left
      · have hb := Hd1.out.next hf.only.below0; have q0 := hb.cell 0; have q1 := hb.cell 1; have q2 := hb.cell 2; have q3 := hb.cell 3; go_simp
        try rfl
      try simp only [Act.put, List.setIfInBounds_toArray, List.set_cons_zero, List.set_cons_succ]
      refine lex_val (v := ?_) rfl rfl (fun w' hf => ?_) ?_
      rotate_left
      · have hb := Hd1.out.next hf.only.below0; have q0 := hb.cell 0; have q1 := hb.cell 1; have q2 := hb.cell 2; have q3 := hb.cell 3; go_simp
        try rfl
      try simp only [Act.put, List.setIfInBounds_toArray, List.set_cons_zero, List.set_cons_succ]
      refine lex_val (v := ?_) rfl rfl (fun w' hf => ?_) ?_
      rotate_left
      · have hb := Hd1.out.next hf.only.below0; have q0 := hb.cell 0; have q1 := hb.cell 1; have q2 := hb.cell 2; have q3 := hb.cell 3; go_simp
        try rfl
      try simp only [Act.put, List.setIfInBounds_toArray, List.set_cons_zero, List.set_cons_succ]
      refine lex_val (v := ?_) rfl rfl (fun w' hf => ?_) ?_
      rotate_left
      · go_simp
        try rfl
      try simp only [Act.put, List.setIfInBounds_toArray, List.set_cons_zero, List.set_cons_succ]
      --#10
      refine lex_letter (f := 9) (args := ?_) rfl rfl (fun w' hf => ?_) (fun w' hf => ?_) ?_
      rotate_left
      · go_simp
        try rfl
      · exact ky_own rfl hf.only.size (H1.out w' hf.only.below0)
      try simp only [Act.put, List.setIfInBounds_toArray, List.set_cons_zero, List.set_cons_succ]
      rw [e1]
      refine lex_val (v := ?_) rfl rfl (fun w' hf => ?_) ?_
      rotate_left
      · have hcv : (convert 35 9 (.slice A1 R.length c1)).run Tryz.prog w' = .ok (.string (bstr R)) w' := ky_conv (B := w3.heap.size) (l := R) (A := A1) (n := R.length) (c := c1) (by have := hf.got 9 _ _ rfl (by kernel_rfl); rw [e1] at this; exact this); go_simp
        try rfl
      try simp only [Act.put, List.setIfInBounds_toArray, List.set_cons_zero, List.set_cons_succ]
      refine lex_val (v := ?_) rfl rfl (fun w' hf => ?_) ?_
      rotate_left
      · have hb := Hd0.out.next hf.only.below0; have q0 := hb.cell 0; have q1 := hb.cell 1; have q2 := hb.cell 2; have q3 := hb.cell 3; go_simp
        try rfl
      try simp only [Act.put, List.setIfInBounds_toArray, List.set_cons_zero, List.set_cons_succ]
      --#11
      refine lex_call (f := 10) (args := ?_) rfl rfl (fun w' hf => ?_) (fun w' hf => ?_) ?_
      rotate_left
      · go_simp
        try rfl
      · exact (ownK_any k c sh ct w').mono fun e w2 ⟨he, hw⟩ => ⟨he, hw⟩
      try simp only [Act.put, List.setIfInBounds_toArray, List.set_cons_zero, List.set_cons_succ]
      refine lex_val (v := ?_) rfl rfl (fun w' hf => ?_) ?_
      rotate_left
      · go_simp
        try rfl
      try simp only [Act.put, List.setIfInBounds_toArray, List.set_cons_zero, List.set_cons_succ]
      refine lex_val (v := ?_) rfl rfl (fun w' hf => ?_) ?_
      rotate_left
      · have hb := Hd1.out.next hf.only.below0; have q0 := hb.cell 0; have q1 := hb.cell 1; have q2 := hb.cell 2; have q3 := hb.cell 3; go_simp
        try rfl
      try simp only [Act.put, List.setIfInBounds_toArray, List.set_cons_zero, List.set_cons_succ]
      refine lex_val (v := ?_) rfl rfl (fun w' hf => ?_) ?_
      rotate_left
      · have hb := Hd1.out.next hf.only.below0; have q0 := hb.cell 0; have q1 := hb.cell 1; have q2 := hb.cell 2; have q3 := hb.cell 3; go_simp
        try rfl
      try simp only [Act.put, List.setIfInBounds_toArray, List.set_cons_zero, List.set_cons_succ]
      refine lex_val (v := ?_) rfl rfl (fun w' hf => ?_) ?_
      rotate_left
      · have hb := Hd1.out.next hf.only.below0; have q0 := hb.cell 0; have q1 := hb.cell 1; have q2 := hb.cell 2; have q3 := hb.cell 3; go_simp
        try rfl
      try simp only [Act.put, List.setIfInBounds_toArray, List.set_cons_zero, List.set_cons_succ]
      refine lex_val (v := ?_) rfl rfl (fun w' hf => ?_) ?_
      rotate_left
      · have hb := Hd1.out.next hf.only.below0; have q0 := hb.cell 0; have q1 := hb.cell 1; have q2 := hb.cell 2; have q3 := hb.cell 3; go_simp
        try rfl
      try simp only [Act.put, List.setIfInBounds_toArray, List.set_cons_zero, List.set_cons_succ]
      refine lex_val (v := ?_) rfl rfl (fun w' hf => ?_) ?_
      rotate_left
      · go_simp
        try rfl
      try simp only [Act.put, List.setIfInBounds_toArray, List.set_cons_zero, List.set_cons_succ]
      --#12
      refine lex_letter (f := 9) (args := ?_) rfl rfl (fun w' hf => ?_) (fun w' hf => ?_) ?_
      rotate_left
      · go_simp
        try rfl
      · exact ky_own rfl hf.only.size (H2.out w' hf.only.below0)
      try simp only [Act.put, List.setIfInBounds_toArray, List.set_cons_zero, List.set_cons_succ]
      rw [e2]
      refine lex_val (v := ?_) rfl rfl (fun w' hf => ?_) ?_
      rotate_left
      · have hcv : (convert 35 9 (.slice A2 R.length c2)).run Tryz.prog w' = .ok (.string (bstr R)) w' := ky_conv (B := w3.heap.size) (l := R) (A := A2) (n := R.length) (c := c2) (by have := hf.got 19 _ _ rfl (by kernel_rfl); rw [e2] at this; exact this); go_simp
        try rfl
      try simp only [Act.put, List.setIfInBounds_toArray, List.set_cons_zero, List.set_cons_succ]
      refine lex_val (v := .bool true) rfl rfl (fun w' hf => ?_) ?_
      · go_simp
        try rfl
      try simp only [Act.put, List.setIfInBounds_toArray, List.set_cons_zero, List.set_cons_succ]
      repeat (
        refine lex_val (v := ?_) rfl rfl (fun w' hf => ?_) ?_
        rotate_left
        · go_simp
          try rfl
        try simp only [Act.put, List.setIfInBounds_toArray, List.set_cons_zero, List.set_cons_succ])
      refine lex_nil fun w' he => ?_
      --#13
      have HBz := Lib.hid (HB3.out.trans (he.only.below0.mono HB3.out.size))
      clear he
      go_wp2_with fail
      go_ret
      exact ⟨rfl, HBz.out⟩

set_option maxRecDepth 100000 in
/-- What the walk gives, for every argument and every world that holds the table. -/
theorem contract (H : Type) (enc : TypeId × Value → H) (W : World) (base : Nat) (args : Array Value) (ds gs : List (DataW H)) (before : List MemPlace)
    (hval : ∀ (j : Nat) t v, Tryz.f3.params[j]? = some t → args[j]? = some v → Value.okWide Tryz.prog W .any base t v)
    (hW : DataW.Whole enc Tryz.prog Tryz.f3.params.toList Rows.keysModesSpec.vars false W args.toList ds gs before) (hL : laidMetH Tryz.prog Rows.keysModesRow.laid W)
    (hreach : (DataW.weightsEach Tryz.prog (Tryz.f3.params.toList ++ []) (ds ++ gs)).all (· ≤ reachBytes) = true) :
    Calls Tryz.prog 3 args W fun e W' => ∃ v, e = .returned v ∧ Rows.keysModesSpec.post enc Tryz.prog Tryz.f3 false true false false W args v W' := by
  have hW' := hW
  have ht := envK hL
  have hlts : ∀ x ∈ before, x.block < W.heap.size := fun x hx => hW'.lt x hx
  obtain ⟨p, q, hA0, hV, rfl, hfz, hnd⟩ := hW
  have hA : DataW.TrodAll enc Tryz.prog W 0 (fun _ => true) true Tryz.f3.params.toList args.toList ds p := hA0
  rw [Tryz.params3] at hA hval hreach
  obtain ⟨v0, vs0, d0, ds0, pp0, qq0, hargs, rfl, rfl, h0, rr0⟩ := trodAll_cons hA
  obtain ⟨v1, vs1, d1, ds1, pp1, qq1, rfl, rfl, rfl, h1, rr1⟩ := trodAll_cons rr0
  obtain ⟨v2, vs2, d2, ds2, pp2, qq2, rfl, rfl, rfl, h2, rr2⟩ := trodAll_cons rr1
  obtain ⟨rfl, rfl, rfl⟩ := trodAll_nil rr2
  obtain rfl : args = #[v0, v1, v2] := by cases args; simp_all
  obtain ⟨rfl, rfl⟩ := trodVars_none hV
  obtain ⟨k0, c0, sh0, ct0, hc0, rfl⟩ := event_in (hval 0 23 v0 rfl rfl) h0
  obtain ⟨m1, lv1, eg1, s1, hm1, rfl⟩ := board_in (hval 1 27 v1 rfl rfl) h1
  obtain ⟨z2, rfl, rfl, rfl, w2⟩ := open_int Tryz.underlying25 (hval 2 25 v2 rfl rfl) h2
  obtain ⟨lo2, hi2⟩ := bounds_u32 w2
  obtain ⟨a2, rfl⟩ : ∃ a : Nat, z2 = (a : Int) := ⟨z2.toNat, by omega⟩
  clear hA0
  refine (walk k0 c0 sh0 ct0 hc0 m1 hm1 lv1 eg1 s1 a2 (by omega) W ht).mono fun e W' ⟨he, hb⟩ => ?_
  subst he
  exact ⟨_, rfl, post_law laidOut (by kernel_rfl) (by kernel_rfl) rfl hW' rfl hb⟩

set_option maxRecDepth 100000 in
theorem laid_met (os : Os) : laidMet Tryz.prog Rows.keysModesRow.laid ((laidWorldK os).forCall (fun _ _ => 0) ⟨#[], #[Value.agg #[.int .i64 0, .int .u8 0, .bool false, .bool false], Value.agg #[.int .u32 0, .int .i64 0, .bool false, .string ⟨#[]⟩], Value.int .u32 0], []⟩).memory :=
  laid_metK os _
set_option maxRecDepth 100000 in
theorem reads (os : Os) {H : Type} (enc : TypeId × Value → H) : ∃ places, DataW.whole enc Tryz.prog ((laidWorldK os).forCall (fun _ _ => 0) ⟨#[], #[Value.agg #[.int .i64 0, .int .u8 0, .bool false, .bool false], Value.agg #[.int .u32 0, .int .i64 0, .bool false, .string ⟨#[]⟩], Value.int .u32 0], []⟩).memory Tryz.f3.params.toList Rows.keysModesSpec.vars false (#[Value.agg #[.int .i64 0, .int .u8 0, .bool false, .bool false], Value.agg #[.int .u32 0, .int .i64 0, .bool false, .string ⟨#[]⟩], Value.int .u32 0] : Array Value).toList 8 = some ([.agg [.lit (.int .i64 0), .lit (.int .u8 0), .lit (.bool false), .lit (.bool false)], .agg [.lit (.int .u32 0), .lit (.int .i64 0), .lit (.bool false), .lit (.string [])], .lit (.int .u32 0)], [], places) :=
  ⟨[], by kernel_rfl⟩

set_option maxRecDepth 100000 in
theorem lifted (os : Os) (started : os.Started) (H : Type) (enc : TypeId × Value → H) (F : Stop.Interp) :
    ReturnsInHanded {} Tryz.checked os 3 .any ((OpenSpec.ofChange Rows.keysModesSpec).preRow enc Tryz.prog Tryz.f3 Rows.keysModesRow.domain false Rows.keysModesRow.laid) (((OpenSpec.ofChange Rows.keysModesSpec).at F).post enc Tryz.prog Tryz.f3 false true false false) := by
  obtain ⟨places, hx⟩ := reads os enc
  refine returnsInHanded_of_row (C := Tryz.checked) (s := OpenSpec.ofChange Rows.keysModesSpec) own started (by kernel_rfl) Tryz.func3
    (witness_row_atRef (enc := enc) (C := Tryz.checked) false (laidWorldK os) #[Value.agg #[.int .i64 0, .int .u8 0, .bool false, .bool false], Value.agg #[.int .u32 0, .int .i64 0, .bool false, .string ⟨#[]⟩], Value.int .u32 0] rfl (by kernel_rfl) (by kernel_rfl) (by kernel_rfl)
      (OpenSpec.preRow_of_cond 8 hx (by kernel_rfl) (fun k hk => by cases hk) (by kernel_rfl) (laid_met os))) ?_
  intro W base args ds gs before hval hW _ _ hreach hL _ _
  exact contract H enc W base args ds gs before hval hW hL hreach

theorem said : Rows.KeysModesSaid :=
  OpenClaim.holds_of_cond 3 Tryz.f3 rfl rfl rfl rfl rfl rfl rfl ⟨rfl, rfl, rfl, rfl, rfl⟩ rfl rfl rfl rfl rfl (by kernel_rfl) Tryz.func3 (by kernel_rfl)
    (of_decide_eq_true (by kernel_rfl)) (by unfold Func.isWrapper; first | (rw [if_pos (by decide +kernel)]; kernel_rfl) | (rw [if_neg (by decide +kernel)]; exact ⟨rfl, rfl⟩))
    (fun os started H enc _ F => by rw [OpenClaim.pre_eq_preRow]; exact lifted os started H enc F)

theorem plain (f : FuncId) (fn : Func) (hf : Tryz.pinned.checked.prog.funcNamed "phosphor/phosphorlaw22.KeysModes" = some f) (hfn : Tryz.pinned.checked.prog.funcs[f]? = some fn) :
    true = Tryz.pinned.checked.prog.looks [] ∧ ∀ (j : Nat) t, fn.params[j]? = some t → Tryz.pinned.checked.prog.wantsStandIn t = false := by
  obtain rfl : f = 3 := Option.some.inj ((show Tryz.prog.funcNamed "phosphor/phosphorlaw22.KeysModes" = some 3 by kernel_rfl).symm.trans hf) |>.symm
  obtain rfl : fn = Tryz.f3 := (Option.some.inj (Tryz.func3.symm.trans hfn)).symm
  refine ⟨by kernel_rfl, fun j t ht => ?_⟩
  rw [Tryz.params3] at ht
  have hm : t ∈ [23, 27, 25] := by simpa using Array.mem_of_getElem? ht
  have hall : ([23, 27, 25].all fun u => !Tryz.prog.wantsStandIn u) = true := by kernel_rfl
  exact (show Tryz.prog.wantsStandIn t = false by simpa using List.all_eq_true.1 hall t hm)

/-- The card. -/
theorem card : Rows.KeysModesCardSaid :=
  Claim7.holds_tied_plain_at .later [] _ _ _ _ said (fun _ h => by cases h) (by kernel_rfl) (fun _ h => by cases h) keysModes_row_tie rfl ⟨rfl, rfl⟩ (by kernel_rfl) rfl plain (by kernel_rfl)
#print axioms card
end Go.Proofs.YtlhabooeeohniaaGreatDoor.keysModes

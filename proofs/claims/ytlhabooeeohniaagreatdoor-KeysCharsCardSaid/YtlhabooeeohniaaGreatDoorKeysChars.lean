/-
  KeysChars holds, whatever the input: the card of the statement, with the library's tables, its two errors and the keys' two tables of numbers tied to the program's text.
-/
import Derived.Test.YtlhabooeeohniaaGreatDoorCards
import Derived.Test.YtlhabooeeohniaaGreatDoorTie
import Derived.Test.YtlhabooeeohniaaGreatDoorFrameKd
import Derived.Test.YtlhabooeeohniaaGreatDoorKeyI
import Derived.Test.YtlhabooeeohniaaGreatDoorFrameKb
namespace Go.Proofs.YtlhabooeeohniaaGreatDoor.keysChars
open Go.ChangeShapes Go.WideShapes Go.ChangeAt Go.RowKit
open Go.ChangeMaps (open_string)

set_option maxRecDepth 100000 in
set_option maxHeartbeats 16000000 in
theorem walk (B0 : Option Addr) (len0 cap0 : Nat) (m : Nat) (_hm : m < 4294967296) (lv : Int) (eg : Bool) (s : ByteArray) (w : World) (he : KEnv w) (hri : RBy w B0 len0) :
    Calls Tryz.prog 4 #[.slice B0 len0 cap0, .agg #[.int .u32 (m : Int), .int .i64 lv, .bool eg, .string s]] w fun e w' => e = .returned (.bool true) ∧ Below w.heap.size w w' := by
  have HE := Lib.hid he
  have HRi := Lib.hid hri
  obtain ⟨i0, hi0, hz0, hz1, hz2⟩ := info_parts info_byte
  have HI := Lib.hid hi0; have HZ0 := Lib.hid hz0; have HZ1 := Lib.hid hz1; have HZ2 := Lib.hid hz2
  clear hi0 hz0 hz1 hz2
  have b0 := Blk.new w 27 #[.int .u32 (m : Int), .int .i64 lv, .bool eg, .string s]
  have hB0 : Below w.heap.size w (w.alloc (.cells #[.int .u32 (m : Int), .int .i64 lv, .bool eg, .string s] 27)) := (Below.refl _ _).alloc (Nat.le_refl _) _
  obtain ⟨m2, hm2e⟩ : ∃ m2, m2 = withN m 0 false := ⟨_, rfl⟩
  have HW := Lib.hid (fun W => with_any m 0 false W)
  rw [← hm2e] at HW
  have hm2 : m2 < 2 ^ 32 := by rw [hm2e]; exact withN_lt m 0 false
  have hEq : ∀ x : Nat, ∀ T : List ByteArray, encP 0 x false false m2 lv eg T = charP x false lv := fun x T => by
    have hh : hasN m2 0 = false := by rw [hm2e, hasN_with]; exact if_pos ⟨rfl, by decide⟩
    unfold encP
    rw [hh, if_neg (by simp), if_pos (by omega)]
    rfl
  have HAw := Lib.hid (keyAwake_any _ (HE.out.next hB0))
  have HBw0 := Lib.hid hB0; have Hb0 := Lib.hid b0
  clear he hri hB0 b0 _hm hm2e
  go_enter Tryz.func4, Tryz.ntmps4
  go_upto_region 1 with fail
  generalize (w.alloc (.cells #[.int .u32 (m : Int), .int .i64 lv, .bool eg, .string s] 27)) = W0 at *
  --#1
  go_wp2_with fail
  refine HAw.out.mono ?_
  rintro e w1 ⟨rfl, hb⟩
  have Hb1 := Lib.hid (Hb0.out.next hb)
  have HB1 := Lib.hid (HBw0.out.trans (hb.mono HBw0.out.size))
  have HTx := Lib.hid (textsK_any m lv eg s w1 (HE.out.next HB1.out))
  have q0 := Hb1.out.cell 0; have q1 := Hb1.out.cell 1; have q2 := Hb1.out.cell 2; have q3 := Hb1.out.cell 3
  clear hb HAw Hb0 HBw0
  --#2
  go_wp2_with fail
  refine HTx.out.mono ?_
  rintro e w2 ⟨⟨K, T, rfl, hKz, hk⟩, hb⟩
  have Hb2 := Lib.hid (Hb1.out.next hb)
  have HB2 := Lib.hid (HB1.out.trans (hb.mono HB1.out.size))
  have HK := Lib.hid hk
  clear hb hk HTx Hb1 q0 q1 q2 q3 HB1
  have q0 := Hb2.out.cell 0; have q1 := Hb2.out.cell 1; have q2 := Hb2.out.cell 2; have q3 := Hb2.out.cell 3
  --#3
  go_wp2_with fail
  refine (HW.out _).mono ?_
  rintro e w3 ⟨rfl, rfl⟩
  go_upto_region 8 with fail
  clear q0 q1 q2 q3
  have HKW := Lib.hid ((HE.out.next HB2.out).key HK.out)
  obtain ⟨Wb, hWb⟩ : ∃ Wb, Wb = w2 := ⟨_, rfl⟩
  obtain ⟨base, hbase⟩ : ∃ b, b = Wb.heap.size := ⟨_, rfl⟩
  have HBe := Lib.hid hbase
  have HBs : Hid (base ≤ Wb.heap.size) := Lib.hid (by omega)
  rw [← hWb] at HB2 Hb2 HKW ⊢
  have HBw := HB2; have HBd := Hb2
  have HEq := Lib.hid (fun x => hEq x T)
  clear hWb hbase HB2 Hb2 HK hKz hEq HW
  --#4
  go_loopw [7, 8, 20] (fun v tx i wr => ∃ (k : Nat) (L : List Nat), k ≤ len0 ∧ k ≤ 100 ∧ L.length ≤ k ∧ i = .int .i64 k ∧ OByt wr base v L ∧ tx = .string (bstr L) ∧ Below Wb.heap.size Wb wr) (fun _ _ i _ => len0 - (intOf i).toNat)
  case atStart => exact ⟨0, [], by omega, by omega, by simp, rfl, obyt_nil _ _, rfl, Below.refl _ _⟩
  case round =>
    obtain ⟨k, L, hk1, hk2, hkL, rfl, ho, rfl, hbb⟩ := hrel
    have HO := Lib.hid ho; have HBb := Lib.hid hbb
    have hwk : IntKind.i64.wrap ((k : Int) + 1) = (k : Int) + 1 := IntWalk.i64_in _ (by omega)
    clear ho hbb
    by_cases hlt : k < len0
    · have m1 : ((k : Int) < (len0 : Int)) = True := eq_true (by omega)
      obtain ⟨ad, x, rfl, hx, hadb, hcell⟩ := HRi.out k hlt
      have hcl := ((HBw.out.trans (HBb.out.mono HBw.out.size)).cell (p := ad.add k) (by rw [block_of_add]; exact hadb)).trans hcell
      have m0 : (0 : Int) ≤ (k : Int) := by omega
      clear hcell
      by_cases h100 : k = 100
      · have m2' : ((100 : Int) ≤ (k : Int)) = True := eq_true (by omega)
        clear h100 hlt hwk
        obtain ⟨A9, c9, e9⟩ := HO.out.form
        subst e9
        have hcv0 := conv_by HO.out.reads c9
        generalize bstr L = tx at *
        go_wp2_with fail
        go_ret
        exact ⟨rfl, HBw.out.trans (HBb.out.mono HBw.out.size)⟩
      · have m2' : ((100 : Int) ≤ (k : Int)) = False := eq_false (by omega)
        have hri := hcl
        have HEn := Lib.hid (enc_any 0 x false false m2 lv eg K T false hx hm2 wr (HKW.out.next HBb.out))
        rw [HEq.out x] at HEn
        have HBx := Lib.hid (HBd.out.next HBb.out)
        have q0 := HBx.out.cell 0; have q1 := HBx.out.cell 1; have q2 := HBx.out.cell 2; have q3 := HBx.out.cell 3
        have hc1 := one_convK wr x
        by_cases hgood : (32 ≤ x ∧ x ≤ 126) ∨ (160 ≤ x ∧ 2 ≤ lv)
        · have hcp : charP x false lv = [x] := char_good x lv hgood
          rw [hcp] at HEn
          have hadd : ∀ W, (Op.stringOp .add (bstr L) (bstr [x])).run Tryz.prog W = .ok (.string (bstr (L ++ [x]))) W := fun W => by
            rw [run_string_add_sum W _ _ (by rw [bstr_size, bstr_size]; simp; omega), ← bstr_append]
          have hgs : (((32 : Int) ≤ (x : Int)) = True ∧ ((x : Int) ≤ 126) = True) ∨ (((32 : Int) ≤ (x : Int)) = True ∧ ((x : Int) ≤ 126) = False ∧ ((160 : Int) ≤ (x : Int)) = True ∧ ((2 : Int) ≤ lv) = True) := by
            by_cases h : 32 ≤ x ∧ x ≤ 126
            · exact .inl ⟨eq_true (by omega), eq_true (by omega)⟩
            · exact .inr ⟨eq_true (by omega), eq_false (by omega), eq_true (by omega), eq_true (by omega)⟩
          clear hgood hcp
          --#5
          go_wp2_with fail
          refine HEn.out.mono ?_
          rintro e w2 ⟨⟨A2, c2, rfl, hr2, _⟩, hb2⟩
          have HO2 := Lib.hid (HO.out.next hb2)
          have HR2 := Lib.hid hr2
          have HB2 := Lib.hid (HBb.out.trans (hb2.mono HBb.out.size))
          clear hb2 hr2 hri q0 q1 q2 q3 hc1
          --#6
          go_upto_region 12 with (at_builtin; refine wpList_append_any _ rfl _ _ 35 rfl base 5 i0 _ 1 1 Tryz.underlying35 HI.out HZ0.out HZ1.out HZ2.out rfl (by decide) _ _ _ rfl (obyt_own HO2.out) w2.heap.size A2 1 c2 _ rfl HR2.out (oby_one [x]) (by unfold maxLen; omega) (by omega) (Nat.le_trans HBs.out HB2.out.size) ?_; intro v3 w3 hown3 hg3 hat3)
          have HO3 : Hid (OByt w3 base v3 (L ++ [x])) := Lib.hid (by unfold OByt; rw [List.length_append, List.map_append]; exact hown3)
          have HB3 : Hid (Below Wb.heap.size Wb w3) := Lib.hid (HB2.out.grown hg3 HB2.out.size (fun k hk => by have := (World.ownsRow.lt (obyt_own HO2.out) k hk).1; rw [← HBe.out]; exact this))
          clear hown3 hg3 hat3
          have HBx3 := Lib.hid (HBd.out.next HB3.out)
          have q0 := HBx3.out.cell 0; have q1 := HBx3.out.cell 1; have q2 := HBx3.out.cell 2; have q3 := HBx3.out.cell 3
          have hc1 := one_convK w3 x
          have HB4 := Lib.hid (HB3.out.alloc HB3.out.size (.cells #[.int .u8 (x : Int)] 5))
          have HO4 := Lib.hid (HO3.out.next ((Below.refl _ w3).alloc (Nat.le_refl _) (.cells #[.int .u8 (x : Int)] 5)))
          have hl1 : (L ++ [x]).length = L.length + 1 := by simp
          obtain ⟨t2, ht2⟩ : ∃ t2, t2 = bstr (L ++ [x]) := ⟨_, rfl⟩
          rw [← ht2] at hadd
          have HT2 := Lib.hid ht2
          clear ht2
          --#7
          rcases hgs with ⟨g1, g2⟩ | ⟨g1, g2, g3, g4⟩
          all_goals
            go_wp2_with fail
            go_roundw
            case rel => exact ⟨k + 1, L ++ [x], by omega, by omega, by omega, by go_num, HO4.out, by rw [HT2.out], HB4.out⟩
            case measure => simp [intOf]; omega
        · have hcp : charP x false lv = [] := char_bad x lv hgood
          rw [hcp] at HEn
          have hgs : (((32 : Int) ≤ (x : Int)) = False ∧ ((160 : Int) ≤ (x : Int)) = False) ∨ (((32 : Int) ≤ (x : Int)) = True ∧ ((x : Int) ≤ 126) = False ∧ ((160 : Int) ≤ (x : Int)) = False) ∨ (((32 : Int) ≤ (x : Int)) = True ∧ ((x : Int) ≤ 126) = False ∧ ((160 : Int) ≤ (x : Int)) = True ∧ ((2 : Int) ≤ lv) = False) := by
            by_cases h : 32 ≤ x
            · by_cases h2 : 160 ≤ x
              · exact .inr (.inr ⟨eq_true (by omega), eq_false (by omega), eq_true (by omega), eq_false (by omega)⟩)
              · exact .inr (.inl ⟨eq_true (by omega), eq_false (by omega), eq_false (by omega)⟩)
            · exact .inl ⟨eq_false (by omega), eq_false (by omega)⟩
          clear hgood hcp hc1
          --#8
          go_wp2_with fail
          refine HEn.out.mono ?_
          rintro e w2 ⟨⟨A2, c2, rfl, hr2, _⟩, hb2⟩
          have HO2 := Lib.hid (HO.out.next hb2)
          have HR2 := Lib.hid hr2
          have HB2 := Lib.hid (HBb.out.trans (hb2.mono HBb.out.size))
          clear hb2 hr2 hri q0 q1 q2 q3
          go_upto_region 12 with (at_builtin; refine wpList_append_any _ rfl _ _ 35 rfl base 5 i0 _ 1 1 Tryz.underlying35 HI.out HZ0.out HZ1.out HZ2.out rfl (by decide) _ _ _ rfl (obyt_own HO2.out) w2.heap.size A2 0 c2 _ rfl HR2.out (oby_one []) (by unfold maxLen; omega) (by omega) (Nat.le_trans HBs.out HB2.out.size) ?_; intro v3 w3 hown3 hg3 hat3)
          have HO3 : Hid (OByt w3 base v3 L) := Lib.hid (by unfold OByt; simpa using hown3)
          have HB3 : Hid (Below Wb.heap.size Wb w3) := Lib.hid (HB2.out.grown hg3 HB2.out.size (fun k hk => by have := (World.ownsRow.lt (obyt_own HO2.out) k hk).1; rw [← HBe.out]; exact this))
          clear hown3 hg3 hat3
          have HBx3 := Lib.hid (HBd.out.next HB3.out)
          have q0 := HBx3.out.cell 0; have q1 := HBx3.out.cell 1; have q2 := HBx3.out.cell 2; have q3 := HBx3.out.cell 3
          --#9
          rcases hgs with ⟨g1, g2⟩ | ⟨g1, g2, g3⟩ | ⟨g1, g2, g3, g4⟩
          all_goals
            go_wp2_with fail
            go_roundw
            case rel => exact ⟨k + 1, L, by omega, by omega, by omega, by go_num, HO3.out, rfl, HB3.out⟩
            case measure => simp [intOf]; omega
    · have m1 : ((k : Int) < (len0 : Int)) = False := eq_false (by omega)
      clear hlt hwk
      obtain ⟨A9, c9, e9⟩ := HO.out.form
      subst e9
      have hcv0 := conv_by HO.out.reads c9
      generalize bstr L = tx at *
      go_wp2_with fail
      go_ret
      exact ⟨rfl, HBw.out.trans (HBb.out.mono HBw.out.size)⟩

set_option maxRecDepth 100000 in
/-- What the walk gives, for every argument and every world that holds the table. -/
theorem contract (H : Type) (enc : TypeId × Value → H) (W : World) (base : Nat) (args : Array Value) (ds gs : List (DataW H)) (before : List MemPlace)
    (hval : ∀ (j : Nat) t v, Tryz.f4.params[j]? = some t → args[j]? = some v → Value.okWide Tryz.prog W .any base t v)
    (hW : DataW.Whole enc Tryz.prog Tryz.f4.params.toList Rows.keysCharsSpec.vars false W args.toList ds gs before) (hL : laidMetH Tryz.prog Rows.keysCharsRow.laid W)
    (hreach : (DataW.weightsEach Tryz.prog (Tryz.f4.params.toList ++ []) (ds ++ gs)).all (· ≤ reachBytes) = true) :
    Calls Tryz.prog 4 args W fun e W' => ∃ v, e = .returned v ∧ Rows.keysCharsSpec.post enc Tryz.prog Tryz.f4 false true false false W args v W' := by
  have hW' := hW
  have ht := envK hL
  have hlts : ∀ x ∈ before, x.block < W.heap.size := fun x hx => hW'.lt x hx
  obtain ⟨p, q, hA0, hV, rfl, hfz, hnd⟩ := hW
  have hA : DataW.TrodAll enc Tryz.prog W 0 (fun _ => true) true Tryz.f4.params.toList args.toList ds p := hA0
  rw [Tryz.params4] at hA hval hreach
  obtain ⟨v0, vs0, d0, ds0, pp0, qq0, hargs, rfl, rfl, h0, rr0⟩ := trodAll_cons hA
  obtain ⟨v1, vs1, d1, ds1, pp1, qq1, rfl, rfl, rfl, h1, rr1⟩ := trodAll_cons rr0
  obtain ⟨rfl, rfl, rfl⟩ := trodAll_nil rr1
  obtain rfl : args = #[v0, v1] := by cases args; simp_all
  obtain ⟨rfl, rfl⟩ := trodVars_none hV
  obtain ⟨b0, len0, cap0, rfl⟩ := okWide_slice Tryz.underlying35 (hval 0 35 v0 rfl rfl)
  have hri0 := bytes_inK h0
  obtain ⟨m1, lv1, eg1, s1, hm1, rfl⟩ := board_in (hval 1 27 v1 rfl rfl) h1
  clear hA0
  refine (walk b0 len0 cap0 m1 hm1 lv1 eg1 s1 W ht hri0).mono fun e W' ⟨he, hb⟩ => ?_
  subst he
  exact ⟨_, rfl, post_law laidOut (by kernel_rfl) (by kernel_rfl) rfl hW' rfl hb⟩

set_option maxRecDepth 100000 in
theorem laid_met (os : Os) : laidMet Tryz.prog Rows.keysCharsRow.laid ((laidWorldK os).forCall (fun _ _ => 0) ⟨#[], #[Value.slice none 0 0, Value.agg #[.int .u32 0, .int .i64 0, .bool false, .string ⟨#[]⟩]], []⟩).memory :=
  laid_metK os _
set_option maxRecDepth 100000 in
theorem reads (os : Os) {H : Type} (enc : TypeId × Value → H) : ∃ places, DataW.whole enc Tryz.prog ((laidWorldK os).forCall (fun _ _ => 0) ⟨#[], #[Value.slice none 0 0, Value.agg #[.int .u32 0, .int .i64 0, .bool false, .string ⟨#[]⟩]], []⟩).memory Tryz.f4.params.toList Rows.keysCharsSpec.vars false (#[Value.slice none 0 0, Value.agg #[.int .u32 0, .int .i64 0, .bool false, .string ⟨#[]⟩]] : Array Value).toList 8 = some ([.nil, .agg [.lit (.int .u32 0), .lit (.int .i64 0), .lit (.bool false), .lit (.string [])]], [], places) :=
  ⟨[], by kernel_rfl⟩

set_option maxRecDepth 100000 in
theorem lifted (os : Os) (started : os.Started) (H : Type) (enc : TypeId × Value → H) (F : Stop.Interp) :
    ReturnsInHanded {} Tryz.checked os 4 .any ((OpenSpec.ofChange Rows.keysCharsSpec).preRow enc Tryz.prog Tryz.f4 Rows.keysCharsRow.domain false Rows.keysCharsRow.laid) (((OpenSpec.ofChange Rows.keysCharsSpec).at F).post enc Tryz.prog Tryz.f4 false true false false) := by
  obtain ⟨places, hx⟩ := reads os enc
  refine returnsInHanded_of_row (C := Tryz.checked) (s := OpenSpec.ofChange Rows.keysCharsSpec) own started (by kernel_rfl) Tryz.func4
    (witness_row_atRef (enc := enc) (C := Tryz.checked) false (laidWorldK os) #[Value.slice none 0 0, Value.agg #[.int .u32 0, .int .i64 0, .bool false, .string ⟨#[]⟩]] rfl (by kernel_rfl) (by kernel_rfl) (by kernel_rfl)
      (OpenSpec.preRow_of_cond 8 hx (by kernel_rfl) (fun k hk => by cases hk) (by kernel_rfl) (laid_met os))) ?_
  intro W base args ds gs before hval hW _ _ hreach hL _ _
  exact contract H enc W base args ds gs before hval hW hL hreach

theorem said : Rows.KeysCharsSaid :=
  OpenClaim.holds_of_cond 4 Tryz.f4 rfl rfl rfl rfl rfl rfl rfl ⟨rfl, rfl, rfl, rfl, rfl⟩ rfl rfl rfl rfl rfl (by kernel_rfl) Tryz.func4 (by kernel_rfl)
    (of_decide_eq_true (by kernel_rfl)) (by unfold Func.isWrapper; first | (rw [if_pos (by decide +kernel)]; kernel_rfl) | (rw [if_neg (by decide +kernel)]; exact ⟨rfl, rfl⟩))
    (fun os started H enc _ F => by rw [OpenClaim.pre_eq_preRow]; exact lifted os started H enc F)

theorem plain (f : FuncId) (fn : Func) (hf : Tryz.pinned.checked.prog.funcNamed "phosphor/phosphorlaw22.KeysChars" = some f) (hfn : Tryz.pinned.checked.prog.funcs[f]? = some fn) :
    true = Tryz.pinned.checked.prog.looks [] ∧ ∀ (j : Nat) t, fn.params[j]? = some t → Tryz.pinned.checked.prog.wantsStandIn t = false := by
  obtain rfl : f = 4 := Option.some.inj ((show Tryz.prog.funcNamed "phosphor/phosphorlaw22.KeysChars" = some 4 by kernel_rfl).symm.trans hf) |>.symm
  obtain rfl : fn = Tryz.f4 := (Option.some.inj (Tryz.func4.symm.trans hfn)).symm
  refine ⟨by kernel_rfl, fun j t ht => ?_⟩
  rw [Tryz.params4] at ht
  have hm : t ∈ [35, 27] := by simpa using Array.mem_of_getElem? ht
  have hall : ([35, 27].all fun u => !Tryz.prog.wantsStandIn u) = true := by kernel_rfl
  exact (show Tryz.prog.wantsStandIn t = false by simpa using List.all_eq_true.1 hall t hm)

/-- The card. -/
theorem card : Rows.KeysCharsCardSaid :=
  Claim7.holds_tied_plain_at .later [] _ _ _ _ said (fun _ h => by cases h) (by kernel_rfl) (fun _ h => by cases h) keysChars_row_tie rfl ⟨rfl, rfl⟩ (by kernel_rfl) rfl plain (by kernel_rfl)
#print axioms card
end Go.Proofs.YtlhabooeeohniaaGreatDoor.keysChars

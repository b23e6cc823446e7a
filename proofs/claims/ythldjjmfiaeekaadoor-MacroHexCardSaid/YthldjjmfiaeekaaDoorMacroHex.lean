/-
  MacroHex holds, whatever the input: the card of the statement, with the library's three tables and its two errors tied to the program's text.
-/
import Derived.Test.YthldjjmfiaeekaaDoorCards
import Derived.Test.YthldjjmfiaeekaaDoorTie
import Derived.Test.YthldjjmfiaeekaaDoorFrameH
import Derived.Test.YthldjjmfiaeekaaDoorMacG
namespace Go.Proofs.YthldjjmfiaeekaaDoor.macroHex
open Go.ChangeShapes Go.WideShapes Go.ChangeAt Go.RowKit
open Go.ChangeMaps (open_string)

set_option maxRecDepth 100000 in
set_option maxHeartbeats 16000000 in
theorem walk (s0 : ByteArray) (_hs : s0.size ≤ maxLen) (nz : Int) (_hn : -9223372036854775808 ≤ nz ∧ nz ≤ 9223372036854775807) (w : World) (_ht : Ten w) (he : ErrS w) :
    Calls Tryd.prog 6 #[.string s0, .int .i64 nz] w fun e w' => e = .returned (.bool true) ∧ Below w.heap.size w w' := by
  have HAw := Lib.hid (macAwake_any w he)
  have HE := Lib.hid he
  have HSh := Lib.hid (fun W => shortM_any s0 _hs 200 (by omega) W)
  obtain ⟨m9, hm9⟩ : ∃ m : Int, min nz 9 = m := ⟨_, rfl⟩
  obtain ⟨n, hn⟩ : ∃ n : Nat, max 1 m9 = (n : Int) := ⟨(max 1 m9).toNat, by omega⟩
  have hn19 : 1 ≤ n ∧ n ≤ 9 := by omega
  clear he _hs _ht _hn
  go_enter Tryd.func6, Tryd.ntmps6
  go_wp2_with fail
  refine HAw.out.mono ?_
  rintro e w1 ⟨rfl, hb⟩
  have HB1 := Lib.hid hb
  clear hb HAw
  go_wp2_with fail
  refine (HSh.out _).mono ?_
  rintro e w2 ⟨⟨s, hs1, hs2, rfl, _⟩, rfl⟩
  obtain ⟨l, hl⟩ : ∃ l, l = natL s.data.toList := ⟨_, rfl⟩
  have hll : l.length = s.size := by rw [hl, natB_len]
  have h8 : ∀ x ∈ l, x < 256 := by rw [hl]; exact nat_lt _
  have hbs : bstr l = s := by rw [hl, bstr_back]
  have HX := Lib.hid (fun W => hexS_any s (by omega) W)
  rw [← hl] at HX
  have hxn : natL (bstr (hexL l)).data.toList = hexL l := nat_bstr _ (hex_lt l h8)
  have hxz : (bstr (hexL l)).size = 2 * l.length := by rw [bstr_size, hex_len]
  have HD1 := Lib.hid (fun W g => decode_any (bstr (hexL l)) (by omega) s.size (by omega) (s.size : Int) (by split <;> omega) W g)
  rw [hxn, hxz, dc_hex l _ s.size [] h8 (by omega) (by simp), if_pos (by simp; omega), List.nil_append] at HD1
  have HD1n : Hid (∀ W, ErrS W → Calls Tryd.prog 17 #[.string (bstr (hexL l)), .int .i64 (s.size : Nat)] W fun e w' => e = .returned (.tuple #[.string s, .int .i64 0]) ∧ Below W.heap.size W w') := Lib.hid (fun W g => by
    have h := HD1.out W g
    unfold dcV at h
    rw [hbs] at h
    exact h)
  obtain ⟨M2, hM2⟩ : ∃ M2 : Nat, M2 = s.size - 1 := ⟨_, rfl⟩
  have HD2 := Lib.hid (fun W g => decode_any (bstr (hexL l)) (by omega) M2 (by omega) ((s.size : Int) - 1) (by split <;> omega) W g)
  rw [hxn, hxz, dc_hex l _ M2 [] h8 (by omega) (by simp)] at HD2
  obtain ⟨z2, hz2⟩ : ∃ z2 : ByteArray × Int, z2 = (if ([] : List Nat).length + l.length ≤ M2 then (bstr l, 0) else (bstr [], 5)) := ⟨_, rfl⟩
  have HD2n : Hid (∀ W, ErrS W → Calls Tryd.prog 17 #[.string (bstr (hexL l)), .int .i64 ((s.size : Int) - 1)] W fun e w' => e = .returned (.tuple #[.string z2.1, .int .i64 z2.2]) ∧ Below W.heap.size W w') := Lib.hid (fun W g => by
    have h := HD2.out W g
    rw [hz2]
    by_cases hc : ([] : List Nat).length + l.length ≤ M2
    · rw [if_pos hc] at h ⊢; exact h
    · rw [if_neg hc] at h ⊢; exact h)
  have hz5 : 0 < s.size → z2.2 = 5 := fun h => by rw [hz2, if_neg (by simp; omega)]
  obtain ⟨z2a, z2b⟩ := z2
  simp only at HD2n hz5
  have hpz : natL (⟨#[122]⟩ : ByteArray).data.toList = [122] := rfl
  have HZ := Lib.hid (fun W => hexS_any ⟨#[122]⟩ (by decide) W)
  rw [hpz] at HZ
  have hbang : (⟨#[33]⟩ : ByteArray) = bstr [33] := rfl
  have hsem : (⟨#[59]⟩ : ByteArray) = bstr [59] := rfl
  have hzed : (⟨#[122]⟩ : ByteArray) = bstr [122] := rfl
  have hadd : ∀ (a b : List Nat) W, a.length + b.length ≤ 100000 → (Op.stringOp .add (bstr a) (bstr b)).run Tryd.prog W = .ok (.string (bstr (a ++ b))) W := fun a b W h => by
    rw [run_string_add_sum W _ _ (by rw [bstr_size, bstr_size]; omega), bstr_app]
  have hxl : (hexL l).length = 2 * l.length := hex_len l
  have hzl : (hexL [122]).length = 2 := rfl
  have A1 : ∀ W, (Op.stringOp .add ⟨#[33]⟩ (bstr [48 + n])).run Tryd.prog W = .ok (.string (bstr [33, 48 + n])) W := fun W => by rw [hbang]; exact hadd [33] [48 + n] W (by simp)
  have A2 : ∀ W, (Op.stringOp .add (bstr [33, 48 + n]) ⟨#[59]⟩).run Tryd.prog W = .ok (.string (bstr [33, 48 + n, 59])) W := fun W => by rw [hsem]; exact hadd [33, 48 + n] [59] W (by simp)
  have A3 : ∀ W, (Op.stringOp .add (bstr [33, 48 + n, 59]) (bstr (hexL l))).run Tryd.prog W = .ok (.string (bstr ([33, 48 + n, 59] ++ hexL l))) W := fun W => hadd _ _ W (by simp; omega)
  have A4 : ∀ W, (Op.stringOp .add (bstr ([33, 48 + n, 59] ++ hexL l)) ⟨#[59]⟩).run Tryd.prog W = .ok (.string (bstr (([33, 48 + n, 59] ++ hexL l) ++ [59]))) W := fun W => by rw [hsem]; exact hadd _ [59] W (by simp; omega)
  have A5 : ∀ W, (Op.stringOp .add (bstr (([33, 48 + n, 59] ++ hexL l) ++ [59])) (bstr (hexL [122]))).run Tryd.prog W = .ok (.string (bstr ((([33, 48 + n, 59] ++ hexL l) ++ [59]) ++ hexL [122]))) W := fun W => hadd _ _ W (by simp; omega)
  have hall : (([33, 48 + n, 59] ++ hexL l) ++ [59]) ++ hexL [122] = 33 :: (48 + n) :: 59 :: (hexL l ++ 59 :: hexL [122]) := by simp
  rw [hall] at A5
  have hd8 : ∀ x ∈ (33 :: (48 + n) :: 59 :: (hexL l ++ 59 :: hexL [122])), x < 256 := by
    intro x hx
    have hz8 : ∀ x ∈ hexL [122], x < 256 := hex_lt [122] (by simp)
    simp only [List.mem_cons, List.mem_append] at hx
    rcases hx with rfl | rfl | rfl | hx | rfl | hx
    · omega
    · omega
    · omega
    · exact hex_lt l h8 x hx
    · omega
    · exact hz8 x hx
  have hd5 : (bstr (33 :: (48 + n) :: 59 :: (hexL l ++ 59 :: hexL [122]))).size ≤ 1000 := by
    rw [bstr_size]
    simp only [List.length_cons, List.length_append]
    omega
  have HD3 := Lib.hid (fun W g => decode_any (bstr (33 :: (48 + n) :: 59 :: (hexL l ++ 59 :: hexL [122]))) (by omega) 2000 (by omega) 2000 (by decide) W g)
  rw [nat_bstr _ hd8, dc_rep l h8 n hn19 (by omega) _ (by rw [bstr_size]; simp)] at HD3
  have HD3n : Hid (∀ W, ErrS W → Calls Tryd.prog 17 #[.string (bstr (33 :: (48 + n) :: 59 :: (hexL l ++ 59 :: hexL [122]))), .int .i64 2000] W fun e w' => e = .returned (.tuple #[.string (bstr (rep n l ++ [122])), .int .i64 0]) ∧ Below W.heap.size W w') := Lib.hid (fun W g => HD3.out W g)
  have hrl : ∀ i : Nat, (rep (i : Nat) l).length = i * l.length := fun i => by rw [rep_len]; rfl
  have A6 : ∀ W, (Op.stringOp .add (bstr (rep n l)) ⟨#[122]⟩).run Tryd.prog W = .ok (.string (bstr (rep n l ++ [122]))) W := fun W => by
    rw [hzed]
    refine hadd _ [122] W ?_
    have := Nat.mul_le_mul hn19.2 (show l.length ≤ 200 by omega)
    rw [hrl]; simp; omega
  have AL : ∀ (i : Nat), i ≤ 9 → ∀ W, (Op.stringOp .add (bstr (rep (i : Nat) l)) s).run Tryd.prog W = .ok (.string (bstr (rep ((i + 1 : Nat) : Int) l))) W := fun i hi W => by
    have := Nat.mul_le_mul hi (show l.length ≤ 200 by omega)
    rw [← hbs, hadd _ _ W (by rw [hrl]; omega), rep_succ]
  have hst : (⟨#[]⟩ : ByteArray) = bstr (rep ((0 : Nat) : Int) l) := rfl
  have hcc := Lib.hid (fun W g h => one_conv W g (48 + n) h)
  have hm0 : IntKind.i64.wrap ((s.size : Int) - 1) = (s.size : Int) - 1 := IntWalk.i64_in _ (by omega)
  have hwn : IntKind.i64.wrap (48 + (n : Int)) = ((48 + n : Nat) : Int) := (IntWalk.i64_in _ (by omega)).trans (by omega)
  have hwu : IntKind.u8.wrap ((48 + n : Nat) : Int) = ((48 + n : Nat) : Int) := IntWalk.u8_in _ (by omega)
  obtain ⟨c, hc⟩ : ∃ c, c = 48 + n := ⟨_, rfl⟩
  rw [← hc] at A1 A2 A3 A4 A5 HD3n hcc hwn hwu
  replace AL := Lib.hid AL
  replace A6 := Lib.hid A6
  replace hst := Lib.hid hst
  clear hl hll h8 hxn hxz HD1 HD2 hz2 hadd hxl hzl hall hd8 hd5 HD3 hrl hbang hsem hzed hpz hc hbs HSh hM2
  generalize bstr (c :: []) = cB at *
  generalize bstr [33, c] = x1 at *
  generalize bstr [33, c, 59] = x2 at *
  generalize bstr ([33, c, 59] ++ hexL l) = x3 at *
  generalize bstr ([33, c, 59] ++ hexL l ++ [59]) = x4 at *
  generalize bstr (33 :: c :: 59 :: (hexL l ++ 59 :: hexL [122])) = x5 at *
  generalize bstr (hexL [122]) = xz at *
  generalize bstr (hexL l) = xh at *
  generalize bstr (rep n l ++ [122]) = y at *
  --#1
  go_wp2_with fail
  refine (HX.out _).mono ?_
  rintro e w3 ⟨rfl, hb⟩
  have HB3 := Lib.hid (HB1.out.trans (hb.mono HB1.out.size))
  clear hb
  go_wp2_with fail
  refine (HD1n.out _ (HE.out.next HB3.out)).mono ?_
  rintro e w4 ⟨rfl, hb⟩
  have HB4 := Lib.hid (HB3.out.trans (hb.mono HB3.out.size))
  clear hb HB3
  --#2
  go_wp2_with fail
  refine (HX.out _).mono ?_
  rintro e w5 ⟨rfl, hb⟩
  have HB5 := Lib.hid (HB4.out.trans (hb.mono HB4.out.size))
  clear hb HB4
  go_wp2_with fail
  refine (HD2n.out _ (HE.out.next HB5.out)).mono ?_
  rintro e w6 ⟨rfl, hb⟩
  have HB6 := Lib.hid (HB5.out.trans (hb.mono HB5.out.size))
  clear hb HB5 HD1n HD2n
  --#3
  have hway : ((s.size : Int) ≤ 0 ∧ True) ∨ (0 < (s.size : Int) ∧ z2b = 5) := by
    rcases Nat.eq_zero_or_pos s.size with h | h
    · exact .inl ⟨by omega, trivial⟩
    · exact .inr ⟨by omega, hz5 h⟩
  clear hz5
  go_upto_region 8 with fail
  go_cut [43] (fun v wx => v = .bool false ∧ w6 = wx)
  case first =>
    rcases hway with ⟨h, _⟩ | ⟨h, rfl⟩
    · have hd : decide ((0 : Int) < (s.size : Int)) = false := decide_eq_false (by omega)
      go_wp2_with fail
      go_meet
      exact ⟨rfl, rfl⟩
    · have hd : decide ((0 : Int) < (s.size : Int)) = true := decide_eq_true h
      go_wp2_with fail
      go_meet
      exact ⟨rfl, rfl⟩
  case rest =>
  obtain ⟨rfl, rfl⟩ := hcut
  clear hway
  go_upto_region 11 with fail
  clear hm9 hn
  have HE6 := Lib.hid (HE.out.next HB6.out)
  --#4
  refine wp_region_mix_lit (by kernel_rfl) [(3, .letter B1P (B1F w6.heap.size c)), (8, .call (.string xh)), (11, .call (.string xz)), (13, .call (.tuple #[.string y, .int .i64 0]))] (by kernel_rfl) (by kernel_rfl) (by kernel_rfl) (by rfl) (by simp [apartK] <;> omega) (by simp [startK]) (by simp only [List.forall_mem_cons]; exact ⟨b1F_stab _ _ _ (by simp [boxes, Kind.boxed]), trivial, trivial, trivial, by simp⟩) (⟨fun _ => .slice (some ⟨0, 0, none⟩) 1 1, by simp only [List.forall_mem_cons]; exact ⟨⟨0, rfl⟩, trivial, trivial, trivial, by simp⟩⟩) (fun β hβ => ?_)
  obtain ⟨g9, e9⟩ := (hβ 3 : B1P (β 3))
  repeat (
    refine lex_val (v := ?_) rfl rfl (fun w' hf => ?_) ?_
    rotate_left
    · go_simp
      try rfl
    try simp only [Act.put, List.setIfInBounds_toArray, List.set_cons_zero, List.set_cons_succ])
  --#5
  refine lex_made rfl rfl (fun w' hf => ⟨.slice (some ⟨w'.heap.size, 0, none⟩) 1 1, w'.alloc (.cells #[.int .u8 (c : Int)] 5), ?_, ⟨_, rfl⟩, ⟨_, rfl, hf.only.size, Blk.new _ _ _⟩, (Below.refl _ _).alloc (Nat.le_refl _) _⟩) ?_
  · go_simp
  try simp only [Act.put, List.setIfInBounds_toArray, List.set_cons_zero, List.set_cons_succ]
  rw [e9]
  refine lex_val (v := .string cB) rfl rfl (fun w' hf => ?_) ?_
  · have h8 : B1F w6.heap.size c (β 3) w' := hf.got 3 _ _ rfl (by kernel_rfl)
    rw [e9] at h8
    obtain ⟨g8, e8, _, hB8⟩ := h8
    have e7 : g9 = g8 := by simpa using e8
    have hcv := hcc.out w' g9 (by rw [e7]; exact hB8)
    clear e8 e7 hB8 hf
    go_simp
  try simp only [Act.put, List.setIfInBounds_toArray, List.set_cons_zero, List.set_cons_succ]
  --#6
  repeat (
    refine lex_val (v := ?_) rfl rfl (fun w' hf => ?_) ?_
    rotate_left
    · go_simp
      try rfl
    try simp only [Act.put, List.setIfInBounds_toArray, List.set_cons_zero, List.set_cons_succ])
  refine lex_call (f := 12) (args := ?_) rfl rfl (fun w' hf => ?_) (fun w' hf => ?_) ?_
  rotate_left
  · go_simp
    try rfl
  · exact HX.out w'
  try simp only [Act.put, List.setIfInBounds_toArray, List.set_cons_zero, List.set_cons_succ]
  repeat (
    refine lex_val (v := ?_) rfl rfl (fun w' hf => ?_) ?_
    rotate_left
    · go_simp
      try rfl
    try simp only [Act.put, List.setIfInBounds_toArray, List.set_cons_zero, List.set_cons_succ])
  refine lex_call (f := 12) (args := ?_) rfl rfl (fun w' hf => ?_) (fun w' hf => ?_) ?_
  rotate_left
  · go_simp
    try rfl
  · exact HZ.out w'
  try simp only [Act.put, List.setIfInBounds_toArray, List.set_cons_zero, List.set_cons_succ]
  repeat (
    refine lex_val (v := ?_) rfl rfl (fun w' hf => ?_) ?_
    rotate_left
    · go_simp
      try rfl
    try simp only [Act.put, List.setIfInBounds_toArray, List.set_cons_zero, List.set_cons_succ])
  --#7
  refine lex_call (f := 17) (args := ?_) rfl rfl (fun w' hf => ?_) (fun w' hf => ?_) ?_
  rotate_left
  · go_simp
    try rfl
  · exact HD3n.out w' (HE6.out.next hf.only.below0)
  try simp only [Act.put, List.setIfInBounds_toArray, List.set_cons_zero, List.set_cons_succ]
  repeat (
    refine lex_val (v := ?_) rfl rfl (fun w' hf => ?_) ?_
    rotate_left
    · go_simp
      try rfl
    try simp only [Act.put, List.setIfInBounds_toArray, List.set_cons_zero, List.set_cons_succ])
  refine lex_nil fun w' he => ?_
  --#8
  have HB7 := Lib.hid (HB6.out.trans (he.only.below0.mono HB6.out.size))
  clear he hβ HX HZ HD3n A1 A2 A3 A4 A5 hcc hwn hwu hm0 e9 HE6 HB6
  go_upto_region 14 with fail
  go_loopw [8, 65] (fun v i wx => ∃ m : Nat, v = .string (bstr (rep (m : Nat) l)) ∧ i = .int .i64 m ∧ m ≤ n ∧ w' = wx) (fun _ i _ => n - (intOf i).toNat)
  case atStart => exact ⟨0, congrArg Value.string hst.out, rfl, by omega, rfl⟩
  case round =>
    obtain ⟨m, rfl, rfl, hm, rfl⟩ := hrel
    by_cases hmn : m < n
    · have hadd := AL.out m (by omega)
      have hwm : IntKind.i64.wrap ((m : Int) + 1) = (m : Int) + 1 := IntWalk.i64_in _ (by omega)
      have hmi : (m : Int) < (n : Int) := by omega
      generalize hxs : bstr (rep ((m + 1 : Nat) : Int) l) = xs at *
      generalize bstr (rep (m : Nat) l) = xr at *
      replace hxs := Lib.hid hxs
      go_wp2_with fail
      go_roundw
      case rel => exact ⟨m + 1, by rw [hxs.out], by go_num, by omega, by first | rfl | trivial⟩
      case measure => simp [intOf]; omega
    · obtain rfl : m = n := by omega
      have hadd := A6.out
      have hmi : ¬ (m : Int) < (m : Int) := by omega
      generalize bstr (rep (m : Nat) l) = xr at *
      clear hmn AL A6
      go_wp2_with fail
      go_ret
      exact ⟨rfl, HB7.out⟩

set_option maxRecDepth 100000 in
/-- What the walk gives, for every argument and every world that holds the table. -/
theorem contract (H : Type) (enc : TypeId × Value → H) (W : World) (base : Nat) (args : Array Value) (ds gs : List (DataW H)) (before : List MemPlace)
    (hval : ∀ (j : Nat) t v, Tryd.f6.params[j]? = some t → args[j]? = some v → Value.okWide Tryd.prog W .any base t v)
    (hW : DataW.Whole enc Tryd.prog Tryd.f6.params.toList Rows.macroHexSpec.vars false W args.toList ds gs before) (hL : laidMetH Tryd.prog Rows.macroHexRow.laid W)
    (hreach : (DataW.weightsEach Tryd.prog (Tryd.f6.params.toList ++ []) (ds ++ gs)).all (· ≤ reachBytes) = true) :
    Calls Tryd.prog 6 args W fun e W' => ∃ v, e = .returned v ∧ Rows.macroHexSpec.post enc Tryd.prog Tryd.f6 false true false false W args v W' := by
  have hW' := hW
  have ht := tenH hL
  have hs := errH hL
  have hlts : ∀ x ∈ before, x.block < W.heap.size := fun x hx => hW'.lt x hx
  obtain ⟨p, q, hA0, hV, rfl, hfz, hnd⟩ := hW
  have hA : DataW.TrodAll enc Tryd.prog W 0 (fun _ => true) true Tryd.f6.params.toList args.toList ds p := hA0
  rw [Tryd.params6] at hA hval hreach
  obtain ⟨v0, vs0, d0, ds0, pp0, qq0, hargs, rfl, rfl, h0, rr0⟩ := trodAll_cons hA
  obtain ⟨v1, vs1, d1, ds1, pp1, qq1, rfl, rfl, rfl, h1, rr1⟩ := trodAll_cons rr0
  obtain ⟨rfl, rfl, rfl⟩ := trodAll_nil rr1
  obtain rfl : args = #[v0, v1] := by cases args; simp_all
  obtain ⟨rfl, rfl⟩ := trodVars_none hV
  obtain ⟨s0, rfl, rfl, rfl, hs0⟩ := open_string Tryd.underlying9 (hval 0 9 v0 rfl rfl) h0
  obtain ⟨a1, rfl, rfl, rfl, w1⟩ := open_int Tryd.underlying3 (hval 1 3 v1 rfl rfl) h1
  have lo1 := bounds_i64 w1
  clear hA0
  refine (walk s0 hs0 a1 lo1 W ht hs).mono fun e W' ⟨he, hb⟩ => ?_
  subst he
  exact ⟨_, rfl, post_law laidOut (by kernel_rfl) (by kernel_rfl) rfl hW' rfl hb⟩

set_option maxRecDepth 100000 in
theorem laid_met (os : Os) : laidMet Tryd.prog Rows.macroHexRow.laid ((laidWorldH os).forCall (fun _ _ => 0) ⟨#[], #[Value.string ⟨#[]⟩, Value.int .i64 0], []⟩).memory :=
  laid_metH os _
set_option maxRecDepth 100000 in
theorem reads (os : Os) {H : Type} (enc : TypeId × Value → H) : ∃ places, DataW.whole enc Tryd.prog ((laidWorldH os).forCall (fun _ _ => 0) ⟨#[], #[Value.string ⟨#[]⟩, Value.int .i64 0], []⟩).memory Tryd.f6.params.toList Rows.macroHexSpec.vars false (#[Value.string ⟨#[]⟩, Value.int .i64 0] : Array Value).toList 8 = some ([.lit (.string []), .lit (.int .i64 0)], [], places) :=
  ⟨[], by kernel_rfl⟩

set_option maxRecDepth 100000 in
theorem lifted (os : Os) (started : os.Started) (H : Type) (enc : TypeId × Value → H) (F : Stop.Interp) :
    ReturnsInHanded {} Tryd.checked os 6 .any ((OpenSpec.ofChange Rows.macroHexSpec).preRow enc Tryd.prog Tryd.f6 Rows.macroHexRow.domain false Rows.macroHexRow.laid) (((OpenSpec.ofChange Rows.macroHexSpec).at F).post enc Tryd.prog Tryd.f6 false true false false) := by
  obtain ⟨places, hx⟩ := reads os enc
  refine returnsInHanded_of_row (C := Tryd.checked) (s := OpenSpec.ofChange Rows.macroHexSpec) own started (by kernel_rfl) Tryd.func6
    (witness_row_atRef (enc := enc) (C := Tryd.checked) false (laidWorldH os) #[Value.string ⟨#[]⟩, Value.int .i64 0] rfl (by kernel_rfl) (by kernel_rfl) (by kernel_rfl)
      (OpenSpec.preRow_of_cond 8 hx (by kernel_rfl) (fun k hk => by cases hk) (by kernel_rfl) (laid_met os))) ?_
  intro W base args ds gs before hval hW _ _ hreach hL _ _
  exact contract H enc W base args ds gs before hval hW hL hreach

theorem said : Rows.MacroHexSaid :=
  OpenClaim.holds_of_cond 6 Tryd.f6 rfl rfl rfl rfl rfl rfl rfl ⟨rfl, rfl, rfl, rfl, rfl⟩ rfl rfl rfl rfl rfl (by kernel_rfl) Tryd.func6 (by kernel_rfl)
    (of_decide_eq_true (by kernel_rfl)) (by unfold Func.isWrapper; first | (rw [if_pos (by decide +kernel)]; kernel_rfl) | (rw [if_neg (by decide +kernel)]; exact ⟨rfl, rfl⟩))
    (fun os started H enc _ F => by rw [OpenClaim.pre_eq_preRow]; exact lifted os started H enc F)

theorem plain (f : FuncId) (fn : Func) (hf : Tryd.pinned.checked.prog.funcNamed "phosphor/phosphorlaw20.MacroHex" = some f) (hfn : Tryd.pinned.checked.prog.funcs[f]? = some fn) :
    true = Tryd.pinned.checked.prog.looks [] ∧ ∀ (j : Nat) t, fn.params[j]? = some t → Tryd.pinned.checked.prog.wantsStandIn t = false := by
  obtain rfl : f = 6 := Option.some.inj ((show Tryd.prog.funcNamed "phosphor/phosphorlaw20.MacroHex" = some 6 by kernel_rfl).symm.trans hf) |>.symm
  obtain rfl : fn = Tryd.f6 := (Option.some.inj (Tryd.func6.symm.trans hfn)).symm
  refine ⟨by kernel_rfl, fun j t ht => ?_⟩
  rw [Tryd.params6] at ht
  have hm : t ∈ [9, 3] := by simpa using Array.mem_of_getElem? ht
  have hall : ([9, 3].all fun u => !Tryd.prog.wantsStandIn u) = true := by kernel_rfl
  exact (show Tryd.prog.wantsStandIn t = false by simpa using List.all_eq_true.1 hall t hm)

/-- The card. -/
theorem card : Rows.MacroHexCardSaid :=
  Claim7.holds_tied_plain_at .later [] _ _ _ _ said (fun _ h => by cases h) (by kernel_rfl) (fun _ h => by cases h) macroHex_row_tie rfl ⟨rfl, rfl⟩ (by kernel_rfl) rfl plain (by kernel_rfl)
#print axioms card
end Go.Proofs.YthldjjmfiaeekaaDoor.macroHex

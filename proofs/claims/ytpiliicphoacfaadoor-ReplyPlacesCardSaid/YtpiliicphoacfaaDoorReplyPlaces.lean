/-
  ReplyPlaces holds, whatever the input: the card of the statement, with the library's three tables tied to the program's text.
-/
import Derived.Test.YtpiliicphoacfaaDoorCards
import Derived.Test.YtpiliicphoacfaaDoorTie
import Derived.Test.YtpiliicphoacfaaDoorFrameP
import Derived.Test.YtpiliicphoacfaaDoorRplA
namespace Go.Proofs.YtpiliicphoacfaaDoor.replyPlaces
open Go.ChangeShapes Go.WideShapes Go.ChangeAt Go.RowKit
open Go.ChangeMaps (open_string)

theorem id_r : idP 4 82 0 ⟨#[]⟩ = ⟨#[82]⟩ := by kernel_rfl
theorem id_qr : idP 4 82 63 ⟨#[]⟩ = ⟨#[63, 82]⟩ := by kernel_rfl
set_option maxRecDepth 100000 in
set_option maxHeartbeats 16000000 in
theorem walk (eight : Bool) (a b : Int) (w : World) (ht : Ten w) :
    Calls Tryd.prog 4 #[.bool eight, .int .i64 a, .int .i64 b] w fun e w' => e = .returned (.bool true) ∧ Below w.heap.size w w' := by
  have HAw := Lib.hid (repAwake_any w ht)
  have HT := Lib.hid ht
  clear ht
  obtain ⟨i1, hj0, hj1, hj2, hj3⟩ := info_u8
  have HJ := Lib.hid (And.intro hj0 (And.intro hj1 (And.intro hj2 hj3)))
  clear hj0 hj1 hj2 hj3
  go_enter Tryd.func4, Tryd.ntmps4
  go_wp2_with fail
  refine HAw.out.mono ?_
  rintro e w1 ⟨rfl, hb⟩
  have HB1 := Lib.hid hb
  have HT1 := Lib.hid (HT.out.next hb)
  clear hb HAw HT
  --#0
  by_cases h1 : a < 0
  · have g1 : (a < 0) = True := eq_true h1
    go_wp2_with fail
    go_ret
    exact ⟨rfl, HB1.out⟩
  have g1 : (a < 0) = False := eq_false h1
  by_cases h2 : 60000 < a
  · have g2 : (60000 < a) = True := eq_true h2
    go_wp2_with fail
    go_ret
    exact ⟨rfl, HB1.out⟩
  have g2 : (60000 < a) = False := eq_false h2
  by_cases h3 : b < 0
  · have g3 : (b < 0) = True := eq_true h3
    go_wp2_with fail
    go_ret
    exact ⟨rfl, HB1.out⟩
  have g3 : (b < 0) = False := eq_false h3
  by_cases h4 : 60000 < b
  · have g4 : (60000 < b) = True := eq_true h4
    go_wp2_with fail
    go_ret
    exact ⟨rfl, HB1.out⟩
  have g4 : (60000 < b) = False := eq_false h4
  --#1
  have ha : 0 ≤ a ∧ a ≤ 60000 := by omega
  have hb : 0 ≤ b ∧ b ≤ 60000 := by omega
  have HF := Lib.hid (fun e f => places_read ha hb e f)
  have H1 : Hid (∀ e W, Ten W → Calls Tryd.prog 15 #[.bool e, .int .i64 a, .int .i64 b, .int .i64 (-1)] W fun x w' => Gives W w' x (repL 4 ⟨#[82]⟩ ⟨#[]⟩ [toldP a, toldP b] e) ∧ Below W.heap.size W w') := Lib.hid (fun e W t => by have q := repPlace_any e a b (-1) (by omega) (by omega) (by omega) (by omega) (by omega) (by omega) W t; rw [if_pos (by omega)] at q; exact q)
  have H2 : Hid (∀ e W, Ten W → Calls Tryd.prog 15 #[.bool e, .int .i64 a, .int .i64 b, .int .i64 7] W fun x w' => Gives W w' x (repL 4 ⟨#[63, 82]⟩ ⟨#[]⟩ [toldP a, toldP b, toldP 7] e) ∧ Below W.heap.size W w') := Lib.hid (fun e W t => by have q := repPlace_any e a b 7 (by omega) (by omega) (by omega) (by omega) (by omega) (by omega) W t; rw [if_neg (by omega)] at q; exact q)
  have hwa : IntKind.i64.wrap (a + 1) = a + 1 := IntWalk.i64_in _ (by omega)
  have hwb : IntKind.i64.wrap (b + 1) = b + 1 := IntWalk.i64_in _ (by omega)
  have HL1 := Lib.hid (rep_len 4 ⟨#[82]⟩ ⟨#[]⟩ [toldP a, toldP b] eight)
  have HL2 := Lib.hid (rep_len 4 ⟨#[63, 82]⟩ ⟨#[]⟩ [toldP a, toldP b, toldP 7] (!eight))
  have HN1 := Lib.hid (rep_lt 4 ⟨#[82]⟩ ⟨#[]⟩ [toldP a, toldP b] eight)
  have HN2 := Lib.hid (rep_lt 4 ⟨#[63, 82]⟩ ⟨#[]⟩ [toldP a, toldP b, toldP 7] (!eight))
  have HFe := Lib.hid (HF.out eight (!eight))
  have HC1 := Lib.hid (H1.out eight w1 HT1.out)
  have HC2 := Lib.hid (fun W t => H2.out (!eight) W t)
  clear HF H1 H2 ha hb
  generalize repL 4 ⟨#[82]⟩ ⟨#[]⟩ [toldP a, toldP b] eight = l1 at *
  generalize repL 4 ⟨#[63, 82]⟩ ⟨#[]⟩ [toldP a, toldP b, toldP 7] (!eight) = l2 at *
  --#2
  go_upto_region 5 with fail
  clear g1 g2 g3 g4 h1 h2 h3 h4
  go_wp2_with fail
  refine HC1.out.mono ?_
  rintro e w2 ⟨⟨v1, rfl, ho1⟩, hb2⟩
  have HO2 := Lib.hid (obyt_own ho1); have HB2 := Lib.hid hb2
  have HC3 := Lib.hid (HC2.out w2 (HT1.out.next hb2))
  clear ho1 hb2 HC1 HC2
  --#3
  go_wp2_with fail
  refine HC3.out.mono ?_
  rintro e w3 ⟨⟨v2, rfl, ho2⟩, hb3⟩
  obtain ⟨A2, c2, rfl⟩ := ho2.form
  have HO3 := Lib.hid (own_more HO2.out hb3)
  have HR3 := Lib.hid (show Reads w3 w3.heap.size 1 A2 l2.length (u8s l2) from ho2.reads)
  have HB3 := Lib.hid (HB2.out.trans (hb3.mono HB2.out.size))
  have HM1 : Hid (l1.length + l2.length ≤ maxLen) := Lib.hid (by have := HL1.out; have := HL2.out; unfold maxLen; omega)
  have HY1 : Hid ((l1.length + l2.length) * 1 ≤ 140737488355328) := Lib.hid (by have := HL1.out; have := HL2.out; omega)
  have HZ1 : Hid (w1.heap.size ≤ w3.heap.size) := Lib.hid HB3.out.size
  obtain ⟨ab, hab⟩ : ∃ ab, ab = l1 ++ l2 := ⟨_, rfl⟩
  have HAl : Hid (ab.length = l1.length + l2.length) := Lib.hid (by rw [hab, List.length_append])
  have HAu : Hid (u8s ab = u8s l1 ++ u8s l2) := Lib.hid (by rw [hab, u8s_snoc])
  have HAb : Hid (∀ x ∈ ab, x < 256) := Lib.hid (fun x h => by rw [hab] at h; rcases List.mem_append.1 h with h | h; exact HN1.out x h; exact HN2.out x h)
  have HLn : Hid (ab.length ≤ 10000) := Lib.hid (by rw [HAl.out]; have := HL1.out; have := HL2.out; omega)
  rw [← hab] at HFe
  clear ho2 hb3 HC3 HO2 HB2 hab
  --#4
  go_wp2_with (at_builtin; refine wpList_append_any _ rfl _ _ 24 rfl w1.heap.size 5 i1 _ 1 1 Tryd.underlying24 HJ.out.1 HJ.out.2.1 HJ.out.2.2.1 HJ.out.2.2.2 rfl (by decide) _ l1.length _ rfl HO3.out _ A2 l2.length c2 _ rfl HR3.out (u8s_one _) HM1.out HY1.out HZ1.out ?_; intro v4 w4 hown4 hg4 _; replace hown4 : w4.ownsRow w1.heap.size 5 1 v4 ab.length (u8s ab) := (by rw [HAl.out, HAu.out]; exact hown4); obtain ⟨A4, c4, rfl⟩ := own_formS hown4; have HO4 := Lib.hid hown4; have HB4 := Lib.hid (below_row HB3.out hg4 (own_ge HO3.out) HZ1.out); clear hown4 hg4)
  have HSp := Lib.hid (split_any A4 c4 ab HAb.out (by have := HLn.out; omega) w4 (Reads.of_own HO4.out))
  rw [HFe.out] at HSp
  dsimp only at HSp
  have HB5 := Lib.hid (HB1.out.trans (HB4.out.mono HB1.out.size))
  have HT5 := Lib.hid (HT1.out.next HB4.out)
  clear HO3 HR3 HB3 HM1 HY1 HZ1 HO4 HB4 HFe HAl HAu HAb HLn HL1 HL2 HN1 HN2 HT1 HB1
  --#5
  refine HSp.out.mono ?_
  rintro e w6 ⟨v6, rfl, ho6, hb6⟩
  have HB6 := Lib.hid (HB5.out.trans (hb6.mono HB5.out.size))
  have HT6 := Lib.hid (HT5.out.next hb6)
  obtain ⟨A6, c6, rfl, _⟩ := ho6.reads
  obtain ⟨g, P, p, D, d, Q, q, E, f, hA, ⟨hP, hD, hQ, hE⟩, hx, hy⟩ := two_toks ho6
  subst hA
  have HX := Lib.hid hx; have HY := Lib.hid hy
  have hg6 : g < w6.heap.size := by
    obtain ⟨zs, h1, _⟩ := ho6
    exact (World.ownsRow.lt h1 g rfl).2
  have HP6 := Lib.hid hP; have HQ6 := Lib.hid hQ
  have HI1 := Lib.hid (id_any 4 82 0 P [a + 1, b + 1] p ⟨#[]⟩ D [] d (by decide) w6 HT6.out)
  have HI2 := Lib.hid (fun W t => id_any 4 82 63 Q [a + 1, b + 1, 8] q ⟨#[]⟩ E [] f (by decide) W t)
  rw [id_r] at HI1
  rw [id_qr] at HI2
  unfold tkC at HI1 HI2
  have HSm := Lib.hid (fun A c B d ns W h1 h2 h3 => sameInts_any A B c d ns ns h1 h1 W h2 h3)
  have HFar : Hid (∀ W, Below w6.heap.size w6 W → ∀ j v, w6.cell? ⟨g, j, none⟩ = some v → W.cell? ⟨g, j, none⟩ = some v) := Lib.hid (fun W hb j v h => by rw [← h]; exact World.cell?_of_block (hb.block g hg6))
  clear ho6 hb6 hx hy hP hD hQ hE HSp HB5 HT5
  obtain ⟨x0, x1, x2, x3, x4, x5⟩ := HX.out
  (try dsimp only at x0 x1 x2 x3 x4 x5)
  --#6
  go_upto_region 6 with fail
  go_wp2_with fail
  refine HI1.out.mono ?_
  rintro e w7 ⟨rfl, hb7⟩
  have HK7 := Lib.hid hb7
  clear x0 x1 x2 x3 x4 x5 HI1
  have x3 := HFar.out w7 HK7.out 3 _ HX.out.2.2.2.1
  (try dsimp only at x3)
  have hal8 : Below w7.heap.size w7 (w7.alloc (.cells #[.int .i64 (a + 1), .int .i64 (b + 1)] 3)) := (Below.refl _ _).alloc (Nat.le_refl _) _
  have HK8 := Lib.hid (HK7.out.trans (hal8.mono HK7.out.size))
  have HS8 := Lib.hid (HSm.out P p (some ⟨w7.heap.size, 0, none⟩) 2 [a + 1, b + 1] _ (by unfold maxLen; simp) (HP6.out.next HK8.out) (rints_new w7 3 [a + 1, b + 1] #[.int .i64 (a + 1), .int .i64 (b + 1)] rfl w7.heap.size rfl))
  rw [show (([a + 1, b + 1] : List Int) == [a + 1, b + 1]) = true by simp] at HS8
  clear hal8 hb7
  --#7
  go_wp2_with fail
  refine HS8.out.mono ?_
  rintro e w9 ⟨rfl, hb9⟩
  have HK9 := Lib.hid (HK8.out.trans (hb9.mono HK8.out.size))
  clear x3 hb9 HS8 HK8 HK7
  have y0 := HFar.out w9 HK9.out 6 _ HY.out.1; have y1 := HFar.out w9 HK9.out 7 _ HY.out.2.1; have y2 := HFar.out w9 HK9.out 8 _ HY.out.2.2.1; have y3 := HFar.out w9 HK9.out 9 _ HY.out.2.2.2.1; have y4 := HFar.out w9 HK9.out 10 _ HY.out.2.2.2.2.1; have y5 := HFar.out w9 HK9.out 11 _ HY.out.2.2.2.2.2
  (try dsimp only at y0 y1 y2 y3 y4 y5)
  have HJ9 := Lib.hid (HI2.out w9 (HT6.out.next HK9.out))
  --#8
  go_wp2_with fail
  refine HJ9.out.mono ?_
  rintro e w10 ⟨rfl, hb10⟩
  have HK10 := Lib.hid (HK9.out.trans (hb10.mono HK9.out.size))
  clear y0 y1 y2 y3 y4 y5 hb10 HJ9 HK9
  have y3 := HFar.out w10 HK10.out 9 _ HY.out.2.2.2.1
  (try dsimp only at y3)
  have hal11 : Below w10.heap.size w10 (w10.alloc (.cells #[.int .i64 (a + 1), .int .i64 (b + 1), .int .i64 8] 3)) := (Below.refl _ _).alloc (Nat.le_refl _) _
  have HK11 := Lib.hid (HK10.out.trans (hal11.mono HK10.out.size))
  have HS11 := Lib.hid (HSm.out Q q (some ⟨w10.heap.size, 0, none⟩) 3 [a + 1, b + 1, 8] _ (by unfold maxLen; simp) (HQ6.out.next HK11.out) (rints_new w10 3 [a + 1, b + 1, 8] #[.int .i64 (a + 1), .int .i64 (b + 1), .int .i64 8] rfl w10.heap.size rfl))
  rw [show (([a + 1, b + 1, 8] : List Int) == [a + 1, b + 1, 8]) = true by simp] at HS11
  clear hal11
  --#9
  go_wp2_with fail
  refine HS11.out.mono ?_
  rintro e w12 ⟨rfl, hb12⟩
  have HK12 := Lib.hid (HK11.out.trans (hb12.mono HK11.out.size))
  clear y3
  --#10
  go_wp2_with fail
  go_ret
  exact ⟨rfl, HB6.out.trans (HK12.out.mono HB6.out.size)⟩

set_option maxRecDepth 100000 in
/-- What the walk gives, for every argument and every world that holds the table. -/
theorem contract (H : Type) (enc : TypeId × Value → H) (W : World) (base : Nat) (args : Array Value) (ds gs : List (DataW H)) (before : List MemPlace)
    (hval : ∀ (j : Nat) t v, Tryd.f4.params[j]? = some t → args[j]? = some v → Value.okWide Tryd.prog W .any base t v)
    (hW : DataW.Whole enc Tryd.prog Tryd.f4.params.toList Rows.replyPlacesSpec.vars false W args.toList ds gs before) (hL : laidMetH Tryd.prog Rows.replyPlacesRow.laid W)
    (hreach : (DataW.weightsEach Tryd.prog (Tryd.f4.params.toList ++ []) (ds ++ gs)).all (· ≤ reachBytes) = true) :
    Calls Tryd.prog 4 args W fun e W' => ∃ v, e = .returned v ∧ Rows.replyPlacesSpec.post enc Tryd.prog Tryd.f4 false true false false W args v W' := by
  have hW' := hW
  have ht := ten_of hL
  have hlts : ∀ x ∈ before, x.block < W.heap.size := fun x hx => hW'.lt x hx
  obtain ⟨p, q, hA0, hV, rfl, hfz, hnd⟩ := hW
  have hA : DataW.TrodAll enc Tryd.prog W 0 (fun _ => true) true Tryd.f4.params.toList args.toList ds p := hA0
  rw [Tryd.params4] at hA hval hreach
  obtain ⟨v0, vs0, d0, ds0, pp0, qq0, hargs, rfl, rfl, h0, rr0⟩ := trodAll_cons hA
  obtain ⟨v1, vs1, d1, ds1, pp1, qq1, rfl, rfl, rfl, h1, rr1⟩ := trodAll_cons rr0
  obtain ⟨v2, vs2, d2, ds2, pp2, qq2, rfl, rfl, rfl, h2, rr2⟩ := trodAll_cons rr1
  obtain ⟨rfl, rfl, rfl⟩ := trodAll_nil rr2
  obtain rfl : args = #[v0, v1, v2] := by cases args; simp_all
  obtain ⟨rfl, rfl⟩ := trodVars_none hV
  obtain ⟨a0, rfl, rfl, rfl⟩ := open_bool Tryd.underlying4 (hval 0 4 v0 rfl rfl) h0
  obtain ⟨a1, rfl, rfl, rfl, w1⟩ := open_int Tryd.underlying3 (hval 1 3 v1 rfl rfl) h1
  obtain ⟨a2, rfl, rfl, rfl, w2⟩ := open_int Tryd.underlying3 (hval 2 3 v2 rfl rfl) h2
  clear hA0
  refine (walk a0 a1 a2 W ht).mono fun e W' ⟨he, hb⟩ => ?_
  subst he
  exact ⟨_, rfl, post_law laidOut (by kernel_rfl) (by kernel_rfl) rfl hW' rfl hb⟩

set_option maxRecDepth 100000 in
theorem laid_met (os : Os) : laidMet Tryd.prog Rows.replyPlacesRow.laid ((laidWorld os).forCall (fun _ _ => 0) ⟨#[], #[Value.bool false, Value.int .i64 0, Value.int .i64 0], []⟩).memory :=
  laidMet_of_run' 8 (by kernel_rfl) (by kernel_rfl)
set_option maxRecDepth 100000 in
theorem reads (os : Os) {H : Type} (enc : TypeId × Value → H) : ∃ places, DataW.whole enc Tryd.prog ((laidWorld os).forCall (fun _ _ => 0) ⟨#[], #[Value.bool false, Value.int .i64 0, Value.int .i64 0], []⟩).memory Tryd.f4.params.toList Rows.replyPlacesSpec.vars false (#[Value.bool false, Value.int .i64 0, Value.int .i64 0] : Array Value).toList 8 = some ([.lit (.bool false), .lit (.int .i64 0), .lit (.int .i64 0)], [], places) :=
  ⟨[], by kernel_rfl⟩

set_option maxRecDepth 100000 in
theorem lifted (os : Os) (started : os.Started) (H : Type) (enc : TypeId × Value → H) (F : Stop.Interp) :
    ReturnsInHanded {} Tryd.checked os 4 .any ((OpenSpec.ofChange Rows.replyPlacesSpec).preRow enc Tryd.prog Tryd.f4 Rows.replyPlacesRow.domain false Rows.replyPlacesRow.laid) (((OpenSpec.ofChange Rows.replyPlacesSpec).at F).post enc Tryd.prog Tryd.f4 false true false false) := by
  obtain ⟨places, hx⟩ := reads os enc
  refine returnsInHanded_of_row (C := Tryd.checked) (s := OpenSpec.ofChange Rows.replyPlacesSpec) own started (by kernel_rfl) Tryd.func4
    (witness_row_at (enc := enc) (C := Tryd.checked) false (laidWorld os) #[Value.bool false, Value.int .i64 0, Value.int .i64 0] rfl (by kernel_rfl) (by kernel_rfl) (by kernel_rfl)
      (OpenSpec.preRow_of_cond 8 hx (by kernel_rfl) (fun k hk => by cases hk) (by kernel_rfl) (laid_met os))) ?_
  intro W base args ds gs before hval hW _ _ hreach hL _ _
  exact contract H enc W base args ds gs before hval hW hL hreach

theorem said : Rows.ReplyPlacesSaid :=
  OpenClaim.holds_of_cond 4 Tryd.f4 rfl rfl rfl rfl rfl rfl rfl ⟨rfl, rfl, rfl, rfl, rfl⟩ rfl rfl rfl rfl rfl (by kernel_rfl) Tryd.func4 (by kernel_rfl)
    (of_decide_eq_true (by kernel_rfl)) (by unfold Func.isWrapper; first | (rw [if_pos (by decide +kernel)]; kernel_rfl) | (rw [if_neg (by decide +kernel)]; exact ⟨rfl, rfl⟩))
    (fun os started H enc _ F => by rw [OpenClaim.pre_eq_preRow]; exact lifted os started H enc F)

theorem plain (f : FuncId) (fn : Func) (hf : Tryd.pinned.checked.prog.funcNamed "phosphor/phosphorlaw18.ReplyPlaces" = some f) (hfn : Tryd.pinned.checked.prog.funcs[f]? = some fn) :
    false = Tryd.pinned.checked.prog.looks [] ∧ ∀ (j : Nat) t, fn.params[j]? = some t → Tryd.pinned.checked.prog.wantsStandIn t = false := by
  obtain rfl : f = 4 := Option.some.inj ((show Tryd.prog.funcNamed "phosphor/phosphorlaw18.ReplyPlaces" = some 4 by kernel_rfl).symm.trans hf) |>.symm
  obtain rfl : fn = Tryd.f4 := (Option.some.inj (Tryd.func4.symm.trans hfn)).symm
  refine ⟨by kernel_rfl, fun j t ht => ?_⟩
  rw [Tryd.params4] at ht
  have hm : t ∈ [4, 3, 3] := by simpa using Array.mem_of_getElem? ht
  have hall : ([4, 3, 3].all fun u => !Tryd.prog.wantsStandIn u) = true := by kernel_rfl
  exact (show Tryd.prog.wantsStandIn t = false by simpa using List.all_eq_true.1 hall t hm)

/-- The card. -/
theorem card : Rows.ReplyPlacesCardSaid :=
  Claim7.holds_tied_plain_at .later [] _ _ _ _ said (fun _ h => by cases h) (by kernel_rfl) (fun _ h => by cases h) replyPlaces_row_tie rfl ⟨rfl, rfl⟩ (by kernel_rfl) rfl plain (by kernel_rfl)
#print axioms card
end Go.Proofs.YtpiliicphoacfaaDoor.replyPlaces

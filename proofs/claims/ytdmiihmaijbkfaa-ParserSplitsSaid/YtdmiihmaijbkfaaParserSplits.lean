/-
  ParserSplits holds, whatever the input.
-/
import Derived.Test.YtdmiihmaijbkfaaFrame0
import Derived.Test.YtdmiihmaijbkfaaPrfR
import Derived.Test.YtdmiihmaijbkfaaFramePn
namespace Go.Proofs.Ytdmiihmaijbkfaa.parserSplits
open Go.ChangeShapes Go.WideShapes Go.ChangeAt Go.RowKit
open Go.ChangeMaps (open_string)

theorem own_emp (w : World) : (w.alloc (.cells #[] 5)).ownsRow w.heap.size 5 1 (.slice (some ⟨w.heap.size, 0, none⟩) 0 0) 0 [] :=
  ⟨rfl, .inr ⟨w.heap.size, 0, #[], rfl, Nat.le_refl _, Blk.new w _ _, Nat.le_refl _, by decide, rfl, rfl⟩⟩
set_option maxRecDepth 100000 in
set_option maxHeartbeats 16000000 in
theorem walk (A : Option Addr) (cap : Nat) (ns : List Nat) (_hm : ns.length ≤ maxLen) (hcap : ns.length ≤ cap) (hn : ∀ x ∈ ns, x < 256) (w : World) (hri : RByt w A ns) :
    Calls Try.prog 3 #[.slice A ns.length cap] w fun e w' => e = .returned (.bool true) ∧ Below w.heap.size w w' := by
  have HAw := Lib.hid (prsAwake_any w)
  have HSh := Lib.hid (fun W => short_any A cap ns 20000 (by decide) hcap W)
  have HMl : Hid ((ns.take 20000).length ≤ 20000) := Lib.hid (by simp; omega)
  have HMb : Hid (∀ x ∈ ns.take 20000, x < 256) := Lib.hid (fun x hx => hn x (List.mem_of_mem_take hx))
  have HR := Lib.hid (hri.takeP 20000)
  clear hri hn hcap
  generalize ns.take 20000 = ms at *
  have hmL : ms.length ≤ 20000 := HMl.out
  obtain ⟨i1, hj0, hj1, hj2, hj3⟩ := info_u8
  have HJ := Lib.hid (And.intro hj0 (And.intro hj1 (And.intro hj2 hj3)))
  clear hj0 hj1 hj2 hj3
  go_enter Try.func3, Try.ntmps3
  go_wp2_with fail
  refine HAw.out.mono ?_
  rintro e w1 ⟨rfl, hb⟩
  have HB1 := Lib.hid hb
  clear hb HAw
  go_wp2_with fail
  refine (HSh.out _).mono ?_
  rintro e w2 ⟨c2, rfl, rfl, hc2⟩
  clear HSh
  have HR2 := Lib.hid (HR.out.next HB1.out)
  clear HR
  have hal : Below w2.heap.size w2 (w2.alloc (.cells #[] 5)) := (Below.refl _ _).alloc (Nat.le_refl _) _
  have HO3 := Lib.hid (own_emp w2)
  have HR3 := Lib.hid (HR2.out.next hal)
  have HB3 := Lib.hid hal
  have HBy : Hid ((0 + ms.length) * 1 ≤ 140737488355328) := Lib.hid (by omega)
  have HMx : Hid (0 + ms.length ≤ maxLen) := Lib.hid (by unfold maxLen; omega)
  have HBz : Hid (w2.heap.size ≤ (w2.alloc (.cells #[] 5)).heap.size) := Lib.hid hal.size
  clear hal
  --#0
  go_upto_region 5 with (at_builtin; refine wpList_append_any _ rfl _ _ 22 rfl w2.heap.size 5 i1 _ 1 1 Try.underlying22 HJ.out.1 HJ.out.2.1 HJ.out.2.2.1 HJ.out.2.2.2 rfl (by decide) _ 0 _ rfl HO3.out _ A ms.length c2 _ rfl HR3.out (u8s_one ms) HMx.out HBy.out HBz.out ?_; intro v4 w4 hown4 hg4 _; rw [Nat.zero_add, List.nil_append] at hown4; obtain ⟨A4, c4, rfl⟩ := own_formS hown4; have HO4 := Lib.hid hown4; have HG4 := Lib.hid hg4; clear hown4 hg4)
  --#1
  have HB24 := Lib.hid (below_row HB3.out HG4.out (own_ge HO3.out) HBz.out)
  have HI4 := Lib.hid (show RByt w4 A4 ms from Reads.of_own HO4.out)
  have HB4 := Lib.hid (HB1.out.trans (HB24.out.mono HB1.out.size))
  have HR4 := Lib.hid (HR2.out.next HB24.out)
  have HSpl := Lib.hid (refSplitF_any A c2 ms HMb.out (by omega) w4 HR4.out)
  have HSz := Lib.hid (szs_feed ms HMb.out)
  have HFf := Lib.hid (feedL_facts ps0 R0 ms)
  clear HO3 HR3 HB3 HBy HMx HBz HG4 HB24 HO4 HR2
  go_wp2_with fail
  refine HSpl.out.mono ?_
  rintro e w5 ⟨⟨A5, c5, rfl, hr5⟩, hb5⟩
  have HB5 := Lib.hid (HB4.out.trans (hb5.mono HB4.out.size))
  have HR5 := Lib.hid (HR4.out.next hb5)
  have HI5 := Lib.hid (HI4.out.next hb5)
  have HT5 := Lib.hid hr5
  clear hr5 hb5 HSpl HB4 HR4 HI4
  --#2
  go_upto_region 6 with fail
  go_upto_region 7 with (refine wpList_alloc_ps rfl rfl ?_)
  have hal : Below w5.heap.size w5 (w5.alloc (.cells ps0.cells.toArray 38)) := (Below.refl _ _).alloc (Nat.le_refl _) _
  have HB56 := Lib.hid hal
  have HFe := Lib.hid (feed_any w5.heap.size ps0 R0 A4 c4 ms HMb.out (by omega) (far_new HI5.out (Nat.le_refl _)) _ (ps_new w5) (HI5.out.next hal))
  clear hal
  generalize w5.alloc (.cells ps0.cells.toArray 38) = w6 at *
  have HSp2 := Lib.hid (fun W h => split_any A4 c4 ms HMb.out (by omega) W h)
  generalize feedL ps0 ms = r at *
  obtain ⟨st, ts⟩ := r
  dsimp only at *
  --#3
  go_wp2_with fail
  refine HFe.out.mono ?_
  rintro e w7 ⟨v7, rfl, hw7⟩
  have HPp := Lib.hid hw7.prs
  have HB57 := Lib.hid (below_of_grown HB56.out hw7.gro (Nat.le_refl _) HB56.out.size)
  obtain ⟨A7, c7, rfl, hr7⟩ := hw7.tok.reads
  have HAre := Lib.hid (are_any A7 c7 ts A5 c5 ts (by have := HFf.out.2; omega) HSz.out HSz.out w7 hr7 (HT5.out.next HB57.out))
  clear hw7 hr7 HFe HB56
  go_wp2_with fail
  refine HAre.out.mono ?_
  rintro e w8 ⟨⟨b, rfl, hbq⟩, hb8⟩
  obtain rfl : b = true := hbq.2 (areP_self ts)
  have HB58 := Lib.hid (HB57.out.trans (hb8.mono HB57.out.size))
  have HI1 := Lib.hid (idle_any w5.heap.size st w8 (HPp.out.next hb8))
  clear hb8 hbq HAre HB57 HPp
  have HI8 := Lib.hid (HI5.out.next HB58.out)
  have HR8 := Lib.hid (HR5.out.next HB58.out)
  have HT8 := Lib.hid (HT5.out.next HB58.out)
  have HB8 := Lib.hid (HB5.out.trans (HB58.out.mono HB5.out.size))
  have hcv1 := conv_by HI8.out c4
  have hcv2 := conv_by HR8.out c2
  generalize bstr ms = bs at *
  clear HI5 HR5 HT5 HB5 HB58
  generalize (st.pl == 0) = z at *
  --#4
  go_wp2_with fail
  refine HI1.out.mono ?_
  rintro e wx ⟨rfl, rfl⟩
  have HS8 := Lib.hid (HSp2.out _ HI8.out)
  clear HSp2 HI1
  cases z
  all_goals
    --#5
    go_wp2_with fail
    refine HS8.out.mono ?_
    rintro e w9 ⟨v9, rfl, ho9, hb9⟩
    obtain ⟨A9, c9, rfl, hr9⟩ := ho9.reads
    have HB9 := Lib.hid (HB8.out.trans (hb9.mono HB8.out.size))
    have HAr2 := Lib.hid (are_any A9 c9 ts A5 c5 ts (by have := HFf.out.2; omega) HSz.out HSz.out w9 hr9 (HT8.out.next hb9))
    clear ho9 hb9 hr9 hcv1 hcv2
    go_wp2_with fail
    refine HAr2.out.mono ?_
    rintro e w10 ⟨⟨b, rfl, hbq⟩, hb10⟩
    obtain rfl : b = true := hbq.2 (areP_self ts)
    have HB10 := Lib.hid (HB9.out.trans (hb10.mono HB9.out.size))
    clear hb10 hbq HAr2
    go_wp2_with fail
    go_ret
    exact ⟨rfl, HB10.out⟩

set_option maxRecDepth 100000 in
/-- What the walk gives, for every argument and every world that holds the table. -/
theorem contract (H : Type) (enc : TypeId × Value → H) (W : World) (base : Nat) (args : Array Value) (ds gs : List (DataW H)) (before : List MemPlace)
    (hval : ∀ (j : Nat) t v, Try.f3.params[j]? = some t → args[j]? = some v → Value.okWide Try.prog W .any base t v)
    (hW : DataW.Whole enc Try.prog Try.f3.params.toList Rows.parserSplitsSpec.vars false W args.toList ds gs before) (_hL : laidMetH Try.prog Rows.parserSplitsRow.laid W)
    (hreach : (DataW.weightsEach Try.prog (Try.f3.params.toList ++ []) (ds ++ gs)).all (· ≤ reachBytes) = true) :
    Calls Try.prog 3 args W fun e W' => ∃ v, e = .returned v ∧ Rows.parserSplitsSpec.post enc Try.prog Try.f3 false true false false W args v W' := by
  have hW' := hW
  clear _hL
  have hlts : ∀ x ∈ before, x.block < W.heap.size := fun x hx => hW'.lt x hx
  obtain ⟨p, q, hA0, hV, rfl, hfz, hnd⟩ := hW
  have hA : DataW.TrodAll enc Try.prog W 0 (fun _ => true) true Try.f3.params.toList args.toList ds p := hA0
  rw [Try.params3] at hA hval hreach
  obtain ⟨v0, vs0, d0, ds0, pp0, qq0, hargs, rfl, rfl, h0, rr0⟩ := trodAll_cons hA
  obtain ⟨rfl, rfl, rfl⟩ := trodAll_nil rr0
  obtain rfl : args = #[v0] := by cases args; simp_all
  obtain ⟨rfl, rfl⟩ := trodVars_none hV
  obtain ⟨b0, len0, cap0, rfl⟩ := okWide_slice Try.underlying22 (hval 0 22 v0 rfl rfl)
  obtain ⟨l0, hlen0, hm0, hc0, ok0, hri0⟩ := bytes_inP h0
  subst hlen0
  clear hA0
  refine (walk b0 cap0 l0 hm0 hc0 ok0 W hri0).mono fun e W' ⟨he, hb⟩ => ?_
  subst he
  exact ⟨_, rfl, post_law laidOut (by kernel_rfl) (by kernel_rfl) rfl hW' rfl hb⟩

set_option maxRecDepth 100000 in
theorem laid_met (os : Os) : laidMet Try.prog Rows.parserSplitsRow.laid ((laidWorld os).forCall (fun _ _ => 0) ⟨#[], #[Value.slice none 0 0], []⟩).memory :=
  laidMet_of_run' 8 (by kernel_rfl) (by kernel_rfl)
set_option maxRecDepth 100000 in
theorem reads (os : Os) {H : Type} (enc : TypeId × Value → H) : ∃ places, DataW.whole enc Try.prog ((laidWorld os).forCall (fun _ _ => 0) ⟨#[], #[Value.slice none 0 0], []⟩).memory Try.f3.params.toList Rows.parserSplitsSpec.vars false (#[Value.slice none 0 0] : Array Value).toList 8 = some ([.nil], [], places) :=
  ⟨[], by kernel_rfl⟩

set_option maxRecDepth 100000 in
theorem lifted (os : Os) (started : os.Started) (H : Type) (enc : TypeId × Value → H) (F : Stop.Interp) :
    ReturnsInHanded {} Try.checked os 3 .any ((OpenSpec.ofChange Rows.parserSplitsSpec).preRow enc Try.prog Try.f3 Rows.parserSplitsRow.domain false Rows.parserSplitsRow.laid) (((OpenSpec.ofChange Rows.parserSplitsSpec).at F).post enc Try.prog Try.f3 false true false false) := by
  obtain ⟨places, hx⟩ := reads os enc
  refine returnsInHanded_of_row (C := Try.checked) (s := OpenSpec.ofChange Rows.parserSplitsSpec) own started (by kernel_rfl) Try.func3
    (witness_row_at (enc := enc) (C := Try.checked) false (laidWorld os) #[Value.slice none 0 0] rfl (by kernel_rfl) (by kernel_rfl) (by kernel_rfl)
      (OpenSpec.preRow_of_cond 8 hx (by kernel_rfl) (fun k hk => by cases hk) (by kernel_rfl) (laid_met os))) ?_
  intro W base args ds gs before hval hW _ _ hreach hL _ _
  exact contract H enc W base args ds gs before hval hW hL hreach

theorem said : Rows.ParserSplitsSaid :=
  OpenClaim.holds_of_cond 3 Try.f3 rfl rfl rfl rfl rfl rfl rfl ⟨rfl, rfl, rfl, rfl, rfl⟩ rfl rfl rfl rfl rfl (by kernel_rfl) Try.func3 (by kernel_rfl)
    (of_decide_eq_true (by kernel_rfl)) (by unfold Func.isWrapper; first | (rw [if_pos (by decide +kernel)]; kernel_rfl) | (rw [if_neg (by decide +kernel)]; exact ⟨rfl, rfl⟩))
    (fun os started H enc _ F => by rw [OpenClaim.pre_eq_preRow]; exact lifted os started H enc F)

#print axioms said
end Go.Proofs.Ytdmiihmaijbkfaa.parserSplits

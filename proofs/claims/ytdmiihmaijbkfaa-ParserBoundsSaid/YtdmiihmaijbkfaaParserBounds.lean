/-
  ParserBounds holds, whatever the input.
-/
import Derived.Test.YtdmiihmaijbkfaaFrame0
import Derived.Test.YtdmiihmaijbkfaaPrsU
import Derived.Test.YtdmiihmaijbkfaaFramePn
namespace Go.Proofs.Ytdmiihmaijbkfaa.parserBounds
open Go.ChangeShapes Go.WideShapes Go.ChangeAt Go.RowKit
open Go.ChangeMaps (open_string)

/-- What is known between two feedings. -/
structure BdW (w W : World) (g : Nat) (s : Ps) (A : Option Addr) (ms : List Nat) : Prop where
  prs : PsB W g s
  v : V s
  r : s.R
  bel : Below w.heap.size w W
  str : RByt W A ms
  gl : w.heap.size ≤ g
  far : ∀ ad, 0 < ms.length → A = some ad → ad.block ≠ g
theorem BdW.next {w W W' : World} {g : Nat} {s : Ps} {A : Option Addr} {ms : List Nat} (h : BdW w W g s A ms) (hb : Below W.heap.size W W') : BdW w W' g s A ms :=
  ⟨h.prs.next hb, h.v, h.r, h.bel.trans (hb.mono h.bel.size), h.str.next hb, h.gl, h.far⟩
theorem rbyt_grown' {w W : World} {A : Option Addr} {ns : List Nat} {g : Nat} (h : RByt w A ns) (hg : w.grownBy W (some g)) (hA : ∀ ad, 0 < ns.length → A = some ad → ad.block ≠ g) : RByt W A ns := by
  rcases Nat.eq_zero_or_pos ns.length with h0 | h0
  · exact ⟨h.1, fun hp => absurd hp (by omega)⟩
  · exact rbyt_grown h hg (fun ad e => hA ad h0 e)
set_option maxRecDepth 100000 in
set_option maxHeartbeats 16000000 in
theorem walk (A : Option Addr) (cap : Nat) (ns : List Nat) (_hm : ns.length ≤ maxLen) (hcap : ns.length ≤ cap) (hn : ∀ x ∈ ns, x < 256) (n : Int) (w : World) (hri : RByt w A ns) :
    Calls Try.prog 6 #[.slice A ns.length cap, .int .i64 n] w fun e w' => e = .returned (.bool true) ∧ Below w.heap.size w w' := by
  have HAw := Lib.hid (prsAwake_any w)
  have HSh := Lib.hid (fun W => short_any A cap ns 200 (by decide) hcap W)
  have HMl : Hid ((ns.take 200).length ≤ 200) := Lib.hid (by simp; omega)
  have HMb : Hid (∀ x ∈ ns.take 200, x < 256) := Lib.hid (fun x hx => hn x (List.mem_of_mem_take hx))
  have HR := Lib.hid (hri.takeP 200)
  clear hri hn hcap
  generalize ns.take 200 = ms at *
  go_enter Try.func6, Try.ntmps6
  go_wp2_with fail
  refine HAw.out.mono ?_
  rintro e w1 ⟨rfl, hb⟩
  have HB1 := Lib.hid hb
  clear hb HAw
  go_wp2_with fail
  refine (HSh.out _).mono ?_
  rintro e w2 ⟨c2, rfl, rfl, hc2⟩
  clear HSh hc2
  have HR2 := Lib.hid (HR.out.next HB1.out)
  clear HR
  go_upto_region 4 with fail
  by_cases hz : ms.length = 0
  · have z0 : ((ms.length : Int) == 0) = true := by rw [hz]; rfl
    go_wp2_with fail
    go_ret
    exact ⟨rfl, HB1.out⟩
  have z0 : ((ms.length : Int) == 0) = false := beq_eq_false_iff_ne.2 (by omega)
  clear hz
  by_cases h1 : n < 1
  · go_wp2_with fail
    go_ret
    exact ⟨rfl, HB1.out⟩
  have n1 : (n < 1) = False := eq_false h1
  by_cases h60 : 60 < n
  · have n60 : (60 < n) = True := eq_true h60
    go_wp2_with fail
    go_ret
    exact ⟨rfl, HB1.out⟩
  have n60 : (60 < n) = False := eq_false h60
  go_upto_region 6 with fail
  go_wp2_with (refine wpList_alloc_ps rfl rfl ?_)
  have hal : Below w2.heap.size w2 (w2.alloc (.cells ps0.cells.toArray 38)) := (Below.refl _ _).alloc (Nat.le_refl _) _
  have HW := Lib.hid (show BdW w (w2.alloc (.cells ps0.cells.toArray 38)) w2.heap.size ps0 A ms from ⟨ps_new w2, V0, R0, HB1.out.trans (hal.mono HB1.out.size), HR2.out.next hal, HB1.out.size, far_new HR2.out (Nat.le_refl _)⟩)
  clear hal HR2 HB1
  generalize w2.alloc (.cells ps0.cells.toArray 38) = w3 at *
  generalize w2.heap.size = g at *
  clear w2
  go_wp2_with fail
  go_loopw [6] (fun j wr => ∃ i s, j = .int .i64 i ∧ 0 ≤ i ∧ i ≤ n ∧ BdW w wr g s A ms) (fun j _ => (n - intOf j).toNat)
  case atStart => exact ⟨0, ps0, rfl, by omega, by omega, HW.out⟩
  case round =>
    obtain ⟨i, s, rfl, hi0, hi1, hw⟩ := hrel
    have HWr := Lib.hid hw
    clear hw HW
    by_cases hlt : i < n
    · have m1 : (i < n) = True := eq_true hlt
      have hwi : IntKind.i64.wrap (i + 1) = i + 1 := IntWalk.i64_in _ (by omega)
      have HF := Lib.hid (feed_any g s HWr.out.r A c2 ms HMb.out (by have := HMl.out; omega) HWr.out.far wr HWr.out.prs HWr.out.str)
      have HV := Lib.hid (V_feedL HWr.out.v ms HMb.out)
      have HFf := Lib.hid (feedL_facts s HWr.out.r ms)
      generalize feedL s ms = r at *
      go_upto_region 10 with fail
      go_wp2_with fail
      refine HF.out.mono ?_
      rintro e w3 ⟨v, rfl, hw3⟩
      obtain ⟨A2, c3, rfl, hrs⟩ := OTks.reads hw3.tok
      have HRs := Lib.hid hrs
      have HW3 := Lib.hid (show BdW w w3 g r.1 A ms from ⟨hw3.prs, HV.out.1, hw3.pl, below_of_grown HWr.out.bel hw3.gro HWr.out.gl HWr.out.bel.size, rbyt_grown' HWr.out.str hw3.gro HWr.out.far, HWr.out.gl, HWr.out.far⟩)
      have HTl : Hid (r.2.length ≤ 200) := Lib.hid (Nat.le_trans HFf.out.2 HMl.out)
      have HTg : Hid (∀ t ∈ r.2, TokG t) := Lib.hid (fun t ht => tokG_of (HV.out.2 t ht).1 (HV.out.2 t ht).2)
      clear hw3 hrs HF HV HFf HWr
      obtain ⟨s3, ts⟩ := r
      dsimp only at HRs HW3 HTl HTg
      go_wp2_with fail
      go_loopw [32] (fun j wi => ∃ k : Nat, k ≤ ts.length ∧ j = .int .i64 k ∧ Below w3.heap.size w3 wi) (fun j _ => ts.length - (intOf j).toNat)
      case atStart => exact ⟨0, by omega, rfl, Below.refl _ _⟩
      case round =>
        obtain ⟨k, hk, rfl, hbi⟩ := hrel
        have HBi := Lib.hid hbi
        clear hbi
        by_cases hlk : k < ts.length
        · have hwk : IntKind.i64.wrap ((k : Int) + 1) = (k : Int) + 1 := IntWalk.i64_in _ (by have := HTl.out; omega)
          have k0 : (0 : Int) ≤ (k : Int) := by omega
          have k1 : ((k : Int) < (ts.length : Int)) = True := eq_true (by omega)
          obtain ⟨ad, P, pc, D, dc, rfl, hP, hD, x0, x1, x2, x3, x4, x5⟩ := (HRs.out.next HBi.out).at_ hlk
          have HG := Lib.hid (HTg.out ts[k] (List.getElem_mem hlk))
          generalize ts[k] = t at *
          obtain ⟨tk, tc, tm, tp, ti, td⟩ := t
          dsimp only at x0 x1 x2 x3 x4 x5 hP hD
          have hal : Below wr.heap.size wr (wr.alloc (.cells #[.int .i64 tk, .int .u8 (tc : Int), .int .u8 (tm : Int), .slice P tp.length pc, .string ti, .slice D td.length dc] 30)) := (Below.refl _ _).alloc (Nat.le_refl _) _
          have HC := Lib.hid (check_any tk tc tm P tp pc ti D td dc HG.out.cd (by have := HG.out.it; unfold maxLen; dsimp only at this; omega) (by have := HG.out.ps; unfold maxLen; dsimp only at this; omega) (by have := HG.out.dt; unfold maxLen; dsimp only at this; omega) _ (hP.next hal) (hD.next hal))
          have hc0 : checkP tk tc tm tp ti td = 0 := HG.out.chk
          rw [hc0] at HC
          have HBn := Lib.hid (HBi.out.trans (hal.mono HBi.out.size))
          have HX := Lib.hid (Blk.new wr 30 #[.int .i64 tk, .int .u8 (tc : Int), .int .u8 (tm : Int), .slice P tp.length pc, .string ti, .slice D td.length dc])
          clear hP hD hal hc0
          unfold tkC at HC
          go_upto_region 13 with fail
          generalize wr.alloc (.cells #[.int .i64 tk, .int .u8 (tc : Int), .int .u8 (tm : Int), .slice P tp.length pc, .string ti, .slice D td.length dc] 30) = w5 at *
          go_wp2_with (refine wpList_load_row rfl _ _ rfl wr.heap.size rfl _ _ (0, 0) _ HX.out tkU rfl tkS6 ?_)
          refine HC.out.mono ?_
          rintro e w6 ⟨rfl, hb6⟩
          have HB6 := Lib.hid (HBn.out.trans (hb6.mono HBn.out.size))
          clear hb6 HC HX
          go_wp2_with fail
          go_roundw
          case rel => exact ⟨k + 1, by omega, by go_num, HB6.out⟩
          case measure => simp [intOf]; omega
        · obtain rfl : k = ts.length := by omega
          have k1 : ((ts.length : Int) < (ts.length : Int)) = False := eq_false (by omega)
          have HW5 := Lib.hid (HW3.out.next HBi.out)
          go_wp2_with fail
          go_roundw
          case rel => exact ⟨i + 1, s3, by go_num, by omega, by omega, HW5.out⟩
          case measure => simp [intOf]; omega
    · obtain rfl : i = n := by omega
      have m1 : (i < i) = False := eq_false (by omega)
      go_wp2_with fail
      go_ret
      exact ⟨rfl, HWr.out.bel⟩

set_option maxRecDepth 100000 in
/-- What the walk gives, for every argument and every world that holds the table. -/
theorem contract (H : Type) (enc : TypeId × Value → H) (W : World) (base : Nat) (args : Array Value) (ds gs : List (DataW H)) (before : List MemPlace)
    (hval : ∀ (j : Nat) t v, Try.f6.params[j]? = some t → args[j]? = some v → Value.okWide Try.prog W .any base t v)
    (hW : DataW.Whole enc Try.prog Try.f6.params.toList Rows.parserBoundsSpec.vars false W args.toList ds gs before) (_hL : laidMetH Try.prog Rows.parserBoundsRow.laid W)
    (hreach : (DataW.weightsEach Try.prog (Try.f6.params.toList ++ []) (ds ++ gs)).all (· ≤ reachBytes) = true) :
    Calls Try.prog 6 args W fun e W' => ∃ v, e = .returned v ∧ Rows.parserBoundsSpec.post enc Try.prog Try.f6 false true false false W args v W' := by
  have hW' := hW
  clear _hL
  have hlts : ∀ x ∈ before, x.block < W.heap.size := fun x hx => hW'.lt x hx
  obtain ⟨p, q, hA0, hV, rfl, hfz, hnd⟩ := hW
  have hA : DataW.TrodAll enc Try.prog W 0 (fun _ => true) true Try.f6.params.toList args.toList ds p := hA0
  rw [Try.params6] at hA hval hreach
  obtain ⟨v0, vs0, d0, ds0, pp0, qq0, hargs, rfl, rfl, h0, rr0⟩ := trodAll_cons hA
  obtain ⟨v1, vs1, d1, ds1, pp1, qq1, rfl, rfl, rfl, h1, rr1⟩ := trodAll_cons rr0
  obtain ⟨rfl, rfl, rfl⟩ := trodAll_nil rr1
  obtain rfl : args = #[v0, v1] := by cases args; simp_all
  obtain ⟨rfl, rfl⟩ := trodVars_none hV
  obtain ⟨b0, len0, cap0, rfl⟩ := okWide_slice Try.underlying22 (hval 0 22 v0 rfl rfl)
  obtain ⟨l0, hlen0, hm0, hc0, ok0, hri0⟩ := bytes_inP h0
  subst hlen0
  obtain ⟨a1, rfl, rfl, rfl, w1⟩ := open_int Try.underlying3 (hval 1 3 v1 rfl rfl) h1
  clear hA0
  refine (walk b0 cap0 l0 hm0 hc0 ok0 a1 W hri0).mono fun e W' ⟨he, hb⟩ => ?_
  subst he
  exact ⟨_, rfl, post_law laidOut (by kernel_rfl) (by kernel_rfl) rfl hW' rfl hb⟩

set_option maxRecDepth 100000 in
theorem laid_met (os : Os) : laidMet Try.prog Rows.parserBoundsRow.laid ((laidWorld os).forCall (fun _ _ => 0) ⟨#[], #[Value.slice none 0 0, Value.int .i64 0], []⟩).memory :=
  laidMet_of_run' 8 (by kernel_rfl) (by kernel_rfl)
set_option maxRecDepth 100000 in
theorem reads (os : Os) {H : Type} (enc : TypeId × Value → H) : ∃ places, DataW.whole enc Try.prog ((laidWorld os).forCall (fun _ _ => 0) ⟨#[], #[Value.slice none 0 0, Value.int .i64 0], []⟩).memory Try.f6.params.toList Rows.parserBoundsSpec.vars false (#[Value.slice none 0 0, Value.int .i64 0] : Array Value).toList 8 = some ([.nil, .lit (.int .i64 0)], [], places) :=
  ⟨[], by kernel_rfl⟩

set_option maxRecDepth 100000 in
theorem lifted (os : Os) (started : os.Started) (H : Type) (enc : TypeId × Value → H) (F : Stop.Interp) :
    ReturnsInHanded {} Try.checked os 6 .any ((OpenSpec.ofChange Rows.parserBoundsSpec).preRow enc Try.prog Try.f6 Rows.parserBoundsRow.domain false Rows.parserBoundsRow.laid) (((OpenSpec.ofChange Rows.parserBoundsSpec).at F).post enc Try.prog Try.f6 false true false false) := by
  obtain ⟨places, hx⟩ := reads os enc
  refine returnsInHanded_of_row (C := Try.checked) (s := OpenSpec.ofChange Rows.parserBoundsSpec) own started (by kernel_rfl) Try.func6
    (witness_row_at (enc := enc) (C := Try.checked) false (laidWorld os) #[Value.slice none 0 0, Value.int .i64 0] rfl (by kernel_rfl) (by kernel_rfl) (by kernel_rfl)
      (OpenSpec.preRow_of_cond 8 hx (by kernel_rfl) (fun k hk => by cases hk) (by kernel_rfl) (laid_met os))) ?_
  intro W base args ds gs before hval hW _ _ hreach hL _ _
  exact contract H enc W base args ds gs before hval hW hL hreach

theorem said : Rows.ParserBoundsSaid :=
  OpenClaim.holds_of_cond 6 Try.f6 rfl rfl rfl rfl rfl rfl rfl ⟨rfl, rfl, rfl, rfl, rfl⟩ rfl rfl rfl rfl rfl (by kernel_rfl) Try.func6 (by kernel_rfl)
    (of_decide_eq_true (by kernel_rfl)) (by unfold Func.isWrapper; first | (rw [if_pos (by decide +kernel)]; kernel_rfl) | (rw [if_neg (by decide +kernel)]; exact ⟨rfl, rfl⟩))
    (fun os started H enc _ F => by rw [OpenClaim.pre_eq_preRow]; exact lifted os started H enc F)

#print axioms said
end Go.Proofs.Ytdmiihmaijbkfaa.parserBounds

/-
  ParserKeeps holds, whatever the input.
-/
import Derived.Test.YtpiliicphoacfaaFrame0
import Derived.Test.YtpiliicphoacfaaPrfT
import Derived.Test.YtpiliicphoacfaaFramePn
namespace Go.Proofs.Ytpiliicphoacfaa.parserKeeps
open Go.ChangeShapes Go.WideShapes Go.ChangeAt Go.RowKit
open Go.ChangeMaps (open_string)

theorem own_emp (w : World) : (w.alloc (.cells #[] 5)).ownsRow w.heap.size 5 1 (.slice (some ⟨w.heap.size, 0, none⟩) 0 0) 0 [] :=
  ⟨rfl, .inr ⟨w.heap.size, 0, #[], rfl, Nat.le_refl _, Blk.new w _ _, Nat.le_refl _, by decide, rfl, rfl⟩⟩
set_option maxRecDepth 100000 in
set_option maxHeartbeats 16000000 in
theorem walk (A : Option Addr) (cap : Nat) (ns : List Nat) (_hm : ns.length ≤ maxLen) (hcap : ns.length ≤ cap) (hn : ∀ x ∈ ns, x < 256) (w : World) (hri : RByt w A ns) :
    Calls Try.prog 5 #[.slice A ns.length cap] w fun e w' => e = .returned (.bool true) ∧ Below w.heap.size w w' := by
  have HAw := Lib.hid (prsAwake_any w)
  have HSh := Lib.hid (fun W => short_any A cap ns 500 (by decide) hcap W)
  have HMl : Hid ((ns.take 500).length ≤ 500) := Lib.hid (by simp; omega)
  have HMb : Hid (∀ x ∈ ns.take 500, x < 256) := Lib.hid (fun x hx => hn x (List.mem_of_mem_take hx))
  have HR := Lib.hid (hri.takeP 500)
  clear hri hn hcap
  generalize ns.take 500 = ms at *
  have hmL : ms.length ≤ 500 := HMl.out
  obtain ⟨i1, hj0, hj1, hj2, hj3⟩ := info_u8
  have HJ := Lib.hid (And.intro hj0 (And.intro hj1 (And.intro hj2 hj3)))
  clear hj0 hj1 hj2 hj3
  go_enter Try.func5, Try.ntmps5
  go_wp2_with fail
  refine HAw.out.mono ?_
  rintro e w1 ⟨rfl, hb⟩
  have HB1 := Lib.hid hb
  clear hb HAw
  go_wp2_with fail
  refine (HSh.out _).mono ?_
  rintro e w2 ⟨c2, rfl, rfl, hc2⟩
  clear HSh
  have HR2 := Lib.hid (HR.out.next HB1.out)
  clear HR
  have hal : Below w2.heap.size w2 (w2.alloc (.cells #[] 5)) := (Below.refl _ _).alloc (Nat.le_refl _) _
  have HO3 := Lib.hid (own_emp w2)
  have HR3 := Lib.hid (HR2.out.next hal)
  have HB3 := Lib.hid hal
  have HBy : Hid ((0 + ms.length) * 1 ≤ 140737488355328) := Lib.hid (by omega)
  have HMx : Hid (0 + ms.length ≤ maxLen) := Lib.hid (by unfold maxLen; omega)
  have HBz : Hid (w2.heap.size ≤ (w2.alloc (.cells #[] 5)).heap.size) := Lib.hid hal.size
  clear hal
  --#0
  go_upto_region 5 with (at_builtin; refine wpList_append_any _ rfl _ _ 22 rfl w2.heap.size 5 i1 _ 1 1 Try.underlying22 HJ.out.1 HJ.out.2.1 HJ.out.2.2.1 HJ.out.2.2.2 rfl (by decide) _ 0 _ rfl HO3.out _ A ms.length c2 _ rfl HR3.out (u8s_one ms) HMx.out HBy.out HBz.out ?_; intro v4 w4 hown4 hg4 _; rw [Nat.zero_add, List.nil_append] at hown4; obtain ⟨A4, c4, rfl⟩ := own_formS hown4; have HO4 := Lib.hid hown4; have HG4 := Lib.hid hg4; clear hown4 hg4)
  --#1
  have HB24 := Lib.hid (below_row HB3.out HG4.out (own_ge HO3.out) HBz.out)
  have HI4 := Lib.hid (show RByt w4 A4 ms from Reads.of_own HO4.out)
  have HB4 := Lib.hid (HB1.out.trans (HB24.out.mono HB1.out.size))
  have HR4 := Lib.hid (HR2.out.next HB24.out)
  have HFlt := Lib.hid (rbyt_blk HR2.out)
  have hs24 : w2.heap.size ≤ w4.heap.size := HB24.out.size
  have hs02 : w.heap.size ≤ w2.heap.size := HB1.out.size
  clear HO3 HR3 HB3 HBy HMx HBz HG4 HB24 HB1 HR2
  --#2
  go_upto_region 6 with (refine wpList_alloc_ps rfl rfl ?_)
  have hz : (w4.alloc (.cells ps0.cells.toArray 35)).heap.size = w4.heap.size + 1 := by simp
  have HP5 : Hid (PsB ((w4.alloc (.cells ps0.cells.toArray 35)).alloc (.cells ps0.cells.toArray 35)) w4.heap.size ps0) := Lib.hid ((ps_new w4).next ((Below.refl _ _).alloc (Nat.le_refl _) _))
  have HQ5 : Hid (PsB ((w4.alloc (.cells ps0.cells.toArray 35)).alloc (.cells ps0.cells.toArray 35)) (w4.heap.size + 1) ps0) := Lib.hid (by have := ps_new (w4.alloc (.cells ps0.cells.toArray 35)); rw [hz] at this; exact this)
  have HB45 : Hid (Below w4.heap.size w4 ((w4.alloc (.cells ps0.cells.toArray 35)).alloc (.cells ps0.cells.toArray 35))) := Lib.hid ((((Below.refl _ w4).alloc (Nat.le_refl _) _)).alloc (by simp) _)
  have HZ5 : Hid (((w4.alloc (.cells ps0.cells.toArray 35)).alloc (.cells ps0.cells.toArray 35)).heap.size = w4.heap.size + 2) := Lib.hid (by simp)
  rw [hz]
  generalize (w4.alloc (.cells ps0.cells.toArray 35)).alloc (.cells ps0.cells.toArray 35) = w5 at *
  clear hz
  have HO5 := Lib.hid (own_more HO4.out HB45.out)
  have HR5 := Lib.hid (HR4.out.next HB45.out)
  have HB5 := Lib.hid (HB4.out.trans (HB45.out.mono HB4.out.size))
  have HFe := Lib.hid (feed_any w4.heap.size ps0 R0 A4 c4 ms HMb.out (by omega) (far_new HI4.out (Nat.le_refl _)) w5 HP5.out (HI4.out.next HB45.out))
  have HFq := Lib.hid (fun W hq hr => feed_any (w4.heap.size + 1) ps0 R0 A c2 ms HMb.out (by omega) (fun ad h0 e => by have := HFlt.out ad h0 e; omega) W hq hr)
  have HSpl := Lib.hid (fun W h => refSplitF_any A c2 ms HMb.out (by omega) W h)
  have HSz := Lib.hid (szs_feed ms HMb.out)
  have HFf := Lib.hid (feedL_facts ps0 R0 ms)
  generalize feedL ps0 ms = r at *
  obtain ⟨st, ts⟩ := r
  dsimp only at *
  clear HO4 HI4 HB4 HR4 HB45
  --#3
  go_wp2_with fail
  refine HFe.out.mono ?_
  rintro e w6 ⟨v6, rfl, hw6⟩
  have HP6 := Lib.hid hw6.prs
  have HQ6 := Lib.hid (HQ5.out.other hw6.gro (by omega))
  have HR6 := Lib.hid (rbyt_row HR5.out hw6.gro (fun ad h0 e e2 => by have := HFlt.out ad h0 e; injection e2 with e2; omega))
  have HO6 := Lib.hid (World.ownsRow.kept (row := some w4.heap.size) HO5.out hw6.gro (.inr (own_ty HO5.out HP5.out.blk (by decide))))
  have HT6 := Lib.hid hw6.tok
  have HB6 := Lib.hid (below_gb HB5.out hw6.gro (by omega) HB5.out.size)
  obtain ⟨A6, c6, rfl, _⟩ := hw6.tok.reads
  have HZ6 : Hid (ZP w6 w2.heap.size A4 c4 ms.length w6) := Lib.hid ⟨⟨ms.map (fun n : Nat => (n : Int)), by rw [List.map_map]; exact HO6.out⟩, grown_refl _ _⟩
  have HO5l := Lib.hid (World.ownsRow.lt HO5.out)
  have hs56 : w5.heap.size ≤ w6.heap.size := hw6.gro.size
  have hz5 : w5.heap.size = w4.heap.size + 2 := HZ5.out
  clear hw6 HFe HP5 HQ5 HR5 HO5 HB5 HZ5
  --#4
  go_wp2_with fail
  go_loopw [25] (fun i wr => ∃ j : Nat, j ≤ ms.length ∧ i = .int .i64 j ∧ ZP w6 w2.heap.size A4 c4 ms.length wr) (fun i _ => ms.length - (intOf i).toNat)
  case atStart => exact ⟨0, by omega, rfl, HZ6.out⟩
  case round =>
    obtain ⟨j, hj, rfl, hlp⟩ := hrel
    have HLP := Lib.hid hlp
    clear hlp HZ6
    by_cases hgo : j < ms.length
    · --#5
      obtain ⟨g1, z, hA, dz, fz, hst⟩ := HLP.out.step hgo
      have HSt := Lib.hid hst
      clear hst
      subst hA
      have hwk : IntKind.i64.wrap ((j : Int) + 1) = (j : Int) + 1 := IntWalk.i64_in _ (by omega)
      have hlt : decide ((j : Int) < (ms.length : Nat)) = true := by simp; omega
      go_wp2_with fail
      go_roundw
      case rel => exact ⟨j + 1, by omega, by first | rfl | go_num, HSt.out _⟩
      case measure => simp [intOf]; omega
    · --#6
      have hd : decide ((j : Int) < (ms.length : Nat)) = false := by simp; omega
      obtain rfl : j = ms.length := by omega
      have hg := HLP.out.gro
      have HP7 := Lib.hid (HP6.out.list HO6.out (by decide) hg)
      have HQ7 := Lib.hid (HQ6.out.list HO6.out (by decide) hg)
      have HR7 := Lib.hid (rbyt_row HR6.out hg (fun ad h0 e e2 => by have := HFlt.out ad h0 e; have := own_ge HO6.out _ e2; omega))
      have HT7 := Lib.hid (HT6.out.keep hg (fun k hk => (HO5l.out k hk).2))
      have HB7 := Lib.hid (below_row HB6.out hg (fun k hk => by have := own_ge HO6.out k hk; omega) HB6.out.size)
      have hs7 : w6.heap.size ≤ wr.heap.size := hg.size
      clear hg HLP HP6 HQ6 HR6 HT6 HB6 HO6 HO5l hgo hj
      have HS7 := Lib.hid (HSpl.out wr HR7.out)
      clear HSpl
      --#7
      go_wp2_with fail
      refine HS7.out.mono ?_
      rintro e w8 ⟨⟨A8, c8, rfl, hr8⟩, hb8⟩
      have HP8 := Lib.hid (HP7.out.next hb8)
      have HQ8 := Lib.hid (HQ7.out.next hb8)
      have HR8 := Lib.hid (HR7.out.next hb8)
      have HT8 := Lib.hid (HT7.out.keep (row := none) (grown_below hb8) (fun k hk => by cases hk))
      have HB8 := Lib.hid (HB7.out.trans (hb8.mono HB7.out.size))
      obtain ⟨A6', c6', e6, hr6⟩ := HT8.out.reads
      cases e6
      have HAre := Lib.hid (are_any A6 c6 ts A8 c8 ts (by have := HFf.out.2; omega) HSz.out HSz.out w8 hr6 hr8)
      have hs8 : wr.heap.size ≤ w8.heap.size := hb8.size
      clear hr8 hb8 hr6 HS7 HP7 HQ7 HR7 HT7 HB7
      --#8
      go_wp2_with fail
      refine HAre.out.mono ?_
      rintro e w9 ⟨⟨b, rfl, hbq⟩, hb9⟩
      obtain rfl : b = true := hbq.2 (areP_self ts)
      have HP9 := Lib.hid (HP8.out.next hb9)
      have HQ9 := Lib.hid (HQ8.out.next hb9)
      have HR9 := Lib.hid (HR8.out.next hb9)
      have HB9 := Lib.hid (HB8.out.trans (hb9.mono HB8.out.size))
      obtain ⟨xs, hkp⟩ := KP.of (HT8.out.keep (row := none) (grown_below hb9) (fun k hk => by cases hk)) (by have := hb9.size; omega)
      have HKP := Lib.hid hkp
      have hts : ts.length ≤ 500 := by have := HFf.out.2; omega
      clear hbq hb9 hkp HAre HP8 HQ8 HR8 HT8 HB8 hs7 hs8 hs56
      --#9
      go_wp2_with fail
      go_loopw [43] (fun j wi => ∃ k : Nat, k ≤ ts.length ∧ j = .int .i64 k ∧ KP w9 w5.heap.size (.slice A6 ts.length c6) xs ts wi) (fun j _ => ts.length - (intOf j).toNat)
      case atStart => exact ⟨0, by omega, rfl, HKP.out⟩
      case round =>
        obtain ⟨k, hk, rfl, hkp⟩ := hrel
        have HK := Lib.hid hkp
        clear hkp HKP
        by_cases hlk : k < ts.length
        · --#10
          have hwk : IntKind.i64.wrap ((k : Int) + 1) = (k : Int) + 1 := IntWalk.i64_in _ (by omega)
          have k0 : (0 : Int) ≤ (k : Int) := by omega
          have k1 : ((k : Int) < (ts.length : Int)) = True := eq_true (by omega)
          obtain ⟨ad, P, pc, D, dc, rfl, hoz, x0, x1, x2, x3, x4, x5⟩ := HK.out.at_ hlk
          generalize ts[k] = t at *
          obtain ⟨tk, tc, tm, tp, ti, td⟩ := t
          dsimp only at x0 x1 x2 x3 x4 x5 hoz
          have HOz := Lib.hid hoz
          have hal : Below wr.heap.size wr (wr.alloc (.cells #[.int .i64 tk, .int .u8 (tc : Int), .int .u8 (tm : Int), .slice P tp.length pc, .string ti, .slice D td.length dc] 27)) := (Below.refl _ _).alloc (Nat.le_refl _) _
          have HKn := Lib.hid (KT.mk (HK.out.next hal) (Blk.new wr 27 #[.int .i64 tk, .int .u8 (tc : Int), .int .u8 (tm : Int), .slice P tp.length pc, .string ti, .slice D td.length dc]))
          have hp63 : tp.length ≤ 9223372036854775807 := (hoz _ HK.out).1.max
          have hd63 : td.length ≤ 9223372036854775807 := (hoz _ HK.out).2.max
          clear hoz hal
          --#11
          go_upto_region 18 with fail
          generalize wr.alloc (.cells #[.int .i64 tk, .int .u8 (tc : Int), .int .u8 (tm : Int), .slice P tp.length pc, .string ti, .slice D td.length dc] 27) = wa at *
          generalize wr.heap.size = gt at *
          clear x0 x1 x2 x3 x4 x5 HK
          obtain ⟨y0, y1, y2, y3, y4, y5⟩ := six HKn.out.box
          --#12
          go_wp2_with fail
          go_loopw [50] (fun i wi => ∃ j : Nat, j ≤ tp.length ∧ i = .int .i64 j ∧ KT w9 w5.heap.size (.slice (some ad) ts.length c6) xs ts gt #[.int .i64 tk, .int .u8 (tc : Int), .int .u8 (tm : Int), .slice P tp.length pc, .string ti, .slice D td.length dc] wi) (fun i _ => tp.length - (intOf i).toNat)
          case atStart => exact ⟨0, by omega, rfl, HKn.out⟩
          case round =>
            obtain ⟨j, hj, rfl, hkt⟩ := hrel
            have HKt := Lib.hid hkt
            clear hkt HKn y0 y1 y2 y3 y4 y5
            obtain ⟨y0, y1, y2, y3, y4, y5⟩ := six HKt.out.box
            by_cases hgo : j < tp.length
            · --#13
              obtain ⟨g1, z, hA, dz, fz, hst⟩ := HKt.out.int (HOz.out _ HKt.out.kp).1 hgo
              have HSt := Lib.hid hst
              clear hst
              subst hA
              have hwj : IntKind.i64.wrap ((j : Int) + 1) = (j : Int) + 1 := IntWalk.i64_in _ (by omega)
              have hlt : decide ((j : Int) < (tp.length : Nat)) = true := by simp; omega
              go_wp2_with fail
              go_roundw
              case rel => exact ⟨j + 1, by omega, by first | rfl | go_num, HSt.out _⟩
              case measure => simp [intOf]; omega
            · --#14
              have hd : decide ((j : Int) < (tp.length : Nat)) = false := by simp; omega
              obtain rfl : j = tp.length := by omega
              clear hgo hj
              go_wp2_with fail
              go_loopw [64] (fun i wi => ∃ j : Nat, j ≤ td.length ∧ i = .int .i64 j ∧ KT w9 w5.heap.size (.slice (some ad) ts.length c6) xs ts gt #[.int .i64 tk, .int .u8 (tc : Int), .int .u8 (tm : Int), .slice P tp.length pc, .string ti, .slice D td.length dc] wi) (fun i _ => td.length - (intOf i).toNat)
              case atStart => exact ⟨0, by omega, rfl, HKt.out⟩
              case round =>
                obtain ⟨j, hj, rfl, hkt⟩ := hrel
                have HKu := Lib.hid hkt
                clear hkt HKt y0 y1 y2 y3 y4 y5 hd
                obtain ⟨y0, y1, y2, y3, y4, y5⟩ := six HKu.out.box
                by_cases hgo : j < td.length
                · --#15
                  obtain ⟨g1, z, hA, dz, fz, hst⟩ := HKu.out.byt (HOz.out _ HKu.out.kp).2 hgo
                  have HSt := Lib.hid hst
                  clear hst
                  subst hA
                  have hwj : IntKind.i64.wrap ((j : Int) + 1) = (j : Int) + 1 := IntWalk.i64_in _ (by omega)
                  have hlt : decide ((j : Int) < (td.length : Nat)) = true := by simp; omega
                  go_wp2_with fail
                  go_roundw
                  case rel => exact ⟨j + 1, by omega, by first | rfl | go_num, HSt.out _⟩
                  case measure => simp [intOf]; omega
                · --#16
                  have hd : decide ((j : Int) < (td.length : Nat)) = false := by simp; omega
                  obtain rfl : j = td.length := by omega
                  clear hgo hj
                  go_wp2_with fail
                  go_roundw
                  case rel => exact ⟨k + 1, by omega, by go_num, HKu.out.kp⟩
                  case measure => simp [intOf]; omega
        · --#17
          obtain rfl : k = ts.length := by omega
          have k1 : ((ts.length : Int) < (ts.length : Int)) = False := eq_false (by omega)
          have hlo := HK.out.low
          have HP10 := Lib.hid (HP9.out.low hlo (by omega))
          have HQ10 := Lib.hid (HQ9.out.low hlo (by omega))
          have HR10 := Lib.hid (rbyt_low HR9.out hlo (fun ad h0 e => by have := HFlt.out ad h0 e; omega))
          have HB10 := Lib.hid (HB9.out.trans (hlo.mono (by omega)))
          clear hlo HK HP9 HQ9 HR9 HB9
          have HF10 := Lib.hid (HFq.out wr HQ10.out HR10.out)
          clear HFq
          --#18
          go_wp2_with fail
          refine HF10.out.mono ?_
          rintro e w11 ⟨v11, rfl, hw11⟩
          have HP11 := Lib.hid (HP10.out.other hw11.gro (by omega))
          have HQ11 := Lib.hid hw11.prs
          have HB11 := Lib.hid (below_gb HB10.out hw11.gro (by omega) HB10.out.size)
          clear hw11 HF10 HP10 HQ10 HR10 HB10
          have HSm := Lib.hid (sameP_any w4.heap.size (w4.heap.size + 1) st w11 HP11.out HQ11.out)
          --#19
          go_wp2_with fail
          refine HSm.out.mono ?_
          rintro e w12 ⟨rfl, hb12⟩
          have HB12 := Lib.hid (HB11.out.trans (hb12.mono HB11.out.size))
          go_wp2_with fail
          go_ret
          exact ⟨rfl, HB12.out⟩

set_option maxRecDepth 100000 in
/-- What the walk gives, for every argument and every world that holds the table. -/
theorem contract (H : Type) (enc : TypeId × Value → H) (W : World) (base : Nat) (args : Array Value) (ds gs : List (DataW H)) (before : List MemPlace)
    (hval : ∀ (j : Nat) t v, Try.f5.params[j]? = some t → args[j]? = some v → Value.okWide Try.prog W .any base t v)
    (hW : DataW.Whole enc Try.prog Try.f5.params.toList Rows.parserKeepsSpec.vars false W args.toList ds gs before) (_hL : laidMetH Try.prog Rows.parserKeepsRow.laid W)
    (hreach : (DataW.weightsEach Try.prog (Try.f5.params.toList ++ []) (ds ++ gs)).all (· ≤ reachBytes) = true) :
    Calls Try.prog 5 args W fun e W' => ∃ v, e = .returned v ∧ Rows.parserKeepsSpec.post enc Try.prog Try.f5 false true false false W args v W' := by
  have hW' := hW
  clear _hL
  have hlts : ∀ x ∈ before, x.block < W.heap.size := fun x hx => hW'.lt x hx
  obtain ⟨p, q, hA0, hV, rfl, hfz, hnd⟩ := hW
  have hA : DataW.TrodAll enc Try.prog W 0 (fun _ => true) true Try.f5.params.toList args.toList ds p := hA0
  rw [Try.params5] at hA hval hreach
  obtain ⟨v0, vs0, d0, ds0, pp0, qq0, hargs, rfl, rfl, h0, rr0⟩ := trodAll_cons hA
  obtain ⟨rfl, rfl, rfl⟩ := trodAll_nil rr0
  obtain rfl : args = #[v0] := by cases args; simp_all
  obtain ⟨rfl, rfl⟩ := trodVars_none hV
  obtain ⟨b0, len0, cap0, rfl⟩ := okWide_slice Try.underlying22 (hval 0 22 v0 rfl rfl)
  obtain ⟨l0, hlen0, hm0, hc0, ok0, hri0⟩ := bytes_inP h0
  subst hlen0
  clear hA0
  refine (walk b0 cap0 l0 hm0 hc0 ok0 W hri0).mono fun e W' ⟨he, hb⟩ => ?_
  subst he
  exact ⟨_, rfl, post_law laidOut (by kernel_rfl) (by kernel_rfl) rfl hW' rfl hb⟩

set_option maxRecDepth 100000 in
theorem laid_met (os : Os) : laidMet Try.prog Rows.parserKeepsRow.laid ((laidWorld os).forCall (fun _ _ => 0) ⟨#[], #[Value.slice none 0 0], []⟩).memory :=
  laidMet_of_run' 8 (by kernel_rfl) (by kernel_rfl)
set_option maxRecDepth 100000 in
theorem reads (os : Os) {H : Type} (enc : TypeId × Value → H) : ∃ places, DataW.whole enc Try.prog ((laidWorld os).forCall (fun _ _ => 0) ⟨#[], #[Value.slice none 0 0], []⟩).memory Try.f5.params.toList Rows.parserKeepsSpec.vars false (#[Value.slice none 0 0] : Array Value).toList 8 = some ([.nil], [], places) :=
  ⟨[], by kernel_rfl⟩

set_option maxRecDepth 100000 in
theorem lifted (os : Os) (started : os.Started) (H : Type) (enc : TypeId × Value → H) (F : Stop.Interp) :
    ReturnsInHanded {} Try.checked os 5 .any ((OpenSpec.ofChange Rows.parserKeepsSpec).preRow enc Try.prog Try.f5 Rows.parserKeepsRow.domain false Rows.parserKeepsRow.laid) (((OpenSpec.ofChange Rows.parserKeepsSpec).at F).post enc Try.prog Try.f5 false true false false) := by
  obtain ⟨places, hx⟩ := reads os enc
  refine returnsInHanded_of_row (C := Try.checked) (s := OpenSpec.ofChange Rows.parserKeepsSpec) own started (by kernel_rfl) Try.func5
    (witness_row_at (enc := enc) (C := Try.checked) false (laidWorld os) #[Value.slice none 0 0] rfl (by kernel_rfl) (by kernel_rfl) (by kernel_rfl)
      (OpenSpec.preRow_of_cond 8 hx (by kernel_rfl) (fun k hk => by cases hk) (by kernel_rfl) (laid_met os))) ?_
  intro W base args ds gs before hval hW _ _ hreach hL _ _
  exact contract H enc W base args ds gs before hval hW hL hreach

theorem said : Rows.ParserKeepsSaid :=
  OpenClaim.holds_of_cond 5 Try.f5 rfl rfl rfl rfl rfl rfl rfl ⟨rfl, rfl, rfl, rfl, rfl⟩ rfl rfl rfl rfl rfl (by kernel_rfl) Try.func5 (by kernel_rfl)
    (of_decide_eq_true (by kernel_rfl)) (by unfold Func.isWrapper; first | (rw [if_pos (by decide +kernel)]; kernel_rfl) | (rw [if_neg (by decide +kernel)]; exact ⟨rfl, rfl⟩))
    (fun os started H enc _ F => by rw [OpenClaim.pre_eq_preRow]; exact lifted os started H enc F)

#print axioms said
end Go.Proofs.Ytpiliicphoacfaa.parserKeeps

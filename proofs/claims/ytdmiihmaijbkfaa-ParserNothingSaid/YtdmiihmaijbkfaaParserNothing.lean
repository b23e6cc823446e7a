/-
  ParserNothing holds, whatever the input.
-/
import Derived.Test.YtdmiihmaijbkfaaFrame0
import Derived.Test.YtdmiihmaijbkfaaPrfR
import Derived.Test.YtdmiihmaijbkfaaFrameE
import Derived.Test.YtdmiihmaijbkfaaFramePn
namespace Go.Proofs.Ytdmiihmaijbkfaa.parserNothing
open Go.ChangeShapes Go.WideShapes Go.ChangeAt Go.RowKit
open Go.ChangeMaps (open_string)

/-- What is known in the midst of it. -/
structure NoW (w1 W : World) (v : Value) (L ms : List Nat) (k : Nat) : Prop where
  own : W.ownsRow w1.heap.size 5 1 v L.length (u8s L)
  bel : Below w1.heap.size w1 W
  pl : plainL L = plainL (ms.take k)
  len : L.length ≤ 3 * k
  lt : ∀ x ∈ L, x < 256
set_option maxRecDepth 100000 in
set_option maxHeartbeats 16000000 in
theorem walk (A : Option Addr) (cap : Nat) (ns : List Nat) (_hm : ns.length ≤ maxLen) (hcap : ns.length ≤ cap) (hn : ∀ x ∈ ns, x < 256) (C : Option Addr) (cc : Nat) (cs : List Int) (hml : cs.length ≤ 17592186043904) (_hcc : cs.length ≤ cc) (w : World) (hri : RByt w A ns) (hrc : RInts w C cs) :
    Calls Try.prog 9 #[.slice A ns.length cap, .slice C cs.length cc] w fun e w' => e = .returned (.bool true) ∧ Below w.heap.size w w' := by
  have HAw := Lib.hid (prsAwake_any w)
  have HSh := Lib.hid (fun W => short_any A cap ns 1000 (by decide) hcap W)
  have HMl : Hid ((ns.take 1000).length ≤ 1000) := Lib.hid (by simp; omega)
  have HMb : Hid (∀ x ∈ ns.take 1000, x < 256) := Lib.hid (fun x hx => hn x (List.mem_of_mem_take hx))
  have HR := Lib.hid (hri.takeP 1000)
  have HRc := Lib.hid hrc
  clear hri hn hcap hrc
  generalize ns.take 1000 = ms at *
  have hmL : ms.length ≤ 1000 := HMl.out
  obtain ⟨i1, hj0, hj1, hj2, hj3⟩ := info_u8
  have HJ := Lib.hid (And.intro hj0 (And.intro hj1 (And.intro hj2 hj3)))
  clear hj0 hj1 hj2 hj3
  go_enter Try.func9, Try.ntmps9
  go_wp2_with fail
  refine HAw.out.mono ?_
  rintro e w1 ⟨rfl, hb⟩
  have HB1 := Lib.hid hb
  clear hb HAw
  go_wp2_with fail
  refine (HSh.out _).mono ?_
  rintro e w2 ⟨c2, rfl, rfl, hc2⟩
  clear HSh
  have HR2 := Lib.hid (HR.out.next HB1.out)
  have HC2 := Lib.hid (HRc.out.next HB1.out)
  clear HR HRc
  go_upto_region 6 with fail
  --#0
  go_loopw [5, 17] (fun v j wr => ∃ (k : Nat) (L : List Nat), k ≤ ms.length ∧ j = .int .i64 k ∧ NoW w2 wr v L ms k) (fun _ j _ => ms.length - (intOf j).toNat)
  case atStart => exact ⟨0, [], by omega, rfl, World.ownsRow_nil _ _ _ _, Below.refl _ _, rfl, by simp, by simp⟩
  case round =>
    obtain ⟨k, L, hk, rfl, hw⟩ := hrel
    have HW := Lib.hid hw
    clear hw
    obtain ⟨A1, c1, rfl⟩ := own_formS HW.out.own
    by_cases hlt : k < ms.length
    · have hwi : IntKind.i64.wrap ((k : Int) + 1) = (k : Int) + 1 := IntWalk.i64_in _ (by omega)
      have k0 : (0 : Int) ≤ (k : Int) := by omega
      have k1 : ((k : Int) < (ms.length : Int)) = True := eq_true (by omega)
      have HSp : Hid (plainL (ms.take (k + 1)) = plainL (ms.take k) ++ plainC ms[k]) := Lib.hid (by rw [List.take_succ_eq_append_getElem hlt, plainL_snoc])
      obtain ⟨ad, ea, _, hc⟩ := RByt.at_ (HR2.out.next HW.out.bel) hlt
      have hc256 := HMb.out ms[k] (List.getElem_mem hlt)
      have hll := HW.out.len
      generalize ms[k] = c at *
      have hways : (((0 : Int) < (cs.length : Int)) = False ∧ (0 < cs.length) = False) ∨ (∃ (adc : Addr) (j : Nat) (x : Int), C = some adc ∧ ((0 : Int) < (cs.length : Int)) = True ∧ 0 < cs.length ∧ Int.tmod (k : Int) (cs.length : Int) = (j : Int) ∧ (0 : Int) ≤ (j : Int) ∧ ((j : Int) < (cs.length : Int)) = True ∧ wr.cell? (adc.add j) = some (.int .i64 x) ∧ ((Int.tmod x 2 == 0) = true ∨ (Int.tmod x 2 == 0) = false)) := by
        by_cases hm0 : 0 < cs.length
        · obtain ⟨j, hj, hT⟩ : ∃ j : Nat, j < cs.length ∧ Int.tmod (k : Int) (cs.length : Int) = (j : Int) := ⟨k % cs.length, Nat.mod_lt _ hm0, by rw [Int.tmod_eq_emod_of_nonneg (by omega)]; exact (Int.natCast_emod _ _).symm⟩
          obtain ⟨adc, ec, _, hcell⟩ := RInts.at_ (HC2.out.next HW.out.bel) hj
          refine .inr ⟨adc, j, cs[j], ec, eq_true (by omega), hm0, hT, by omega, eq_true (by omega), hcell, ?_⟩
          rcases (Int.tmod cs[j] 2 == 0) with _ | _
          · exact .inr rfl
          · exact .inl rfl
        · exact .inl ⟨eq_false (by omega), eq_false hm0⟩
      rcases hways with ⟨m1, m2⟩ | ⟨adc, j, x, ec, m1, m2, hT, j0, j1, hcell, hz | hz⟩
      · --#1
        have hal : Below wr.heap.size wr (wr.alloc (.cells #[.int .u8 (c : Int)] 5)) := (Below.refl _ _).alloc (Nat.le_refl _) _
        have HB2 := Lib.hid (HW.out.bel.trans (hal.mono HW.out.bel.size))
        have HO2 := Lib.hid (own_more HW.out.own hal)
        have HRd := Lib.hid (row_reads wr 5 (u8s [c]) 1 1 rfl)
        have HBy : Hid ((L.length + 1) * 1 ≤ 140737488355328) := Lib.hid (by omega)
        have HMx : Hid (L.length + 1 ≤ maxLen) := Lib.hid (by unfold maxLen; omega)
        have HBz : Hid (w2.heap.size ≤ (wr.alloc (.cells #[.int .u8 (c : Int)] 5)).heap.size) := Lib.hid HB2.out.size
        have HLt := Lib.hid HW.out.lt
        have HPl := Lib.hid HW.out.pl
        clear hal
        (try subst ec)
        subst ea
        go_wp2_with (at_builtin; refine wpList_append_any _ rfl _ _ 22 rfl w2.heap.size 5 i1 _ 1 1 Try.underlying22 HJ.out.1 HJ.out.2.1 HJ.out.2.2.1 HJ.out.2.2.2 rfl (by decide) _ L.length _ rfl HO2.out _ (some ⟨wr.heap.size, 0, none⟩) 1 1 _ rfl HRd.out (u8s_one _) HMx.out HBy.out HBz.out ?_; intro v6 w6 hown6 hg6 _)
        go_roundw
        case rel => exact ⟨k + 1, L ++ [c], by omega, by go_num, by rw [u8s_snoc, List.length_append]; exact hown6, below_row HB2.out hg6 (own_ge HO2.out) HBz.out, by rw [HSp.out, plainL_snoc, HPl.out], by simp; omega, fun y hy => by
          rcases List.mem_append.1 hy with h | h
          · exact HLt.out y h
          · obtain rfl : y = c := by simpa using h
            exact hc256⟩
        case measure => simp [intOf]; omega
      · --#2
        have hal : Below wr.heap.size wr (wr.alloc (.cells #[.int .u8 0, .int .u8 127] 5)) := (Below.refl _ _).alloc (Nat.le_refl _) _
        have HB2 := Lib.hid (HW.out.bel.trans (hal.mono HW.out.bel.size))
        have HO2 := Lib.hid (own_more HW.out.own hal)
        have HRd := Lib.hid (row_reads wr 5 (u8s [0, 127]) 2 1 rfl)
        have HBy : Hid ((L.length + 2) * 1 ≤ 140737488355328) := Lib.hid (by omega)
        have HMx : Hid (L.length + 2 ≤ maxLen) := Lib.hid (by unfold maxLen; omega)
        have HBz : Hid (w2.heap.size ≤ (wr.alloc (.cells #[.int .u8 0, .int .u8 127] 5)).heap.size) := Lib.hid HB2.out.size
        have HLt := Lib.hid HW.out.lt
        have HPl := Lib.hid HW.out.pl
        clear hal
        subst ec
        subst ea
        go_upto_region 10 with (at_builtin; refine wpList_append_any _ rfl _ _ 22 rfl w2.heap.size 5 i1 _ 1 1 Try.underlying22 HJ.out.1 HJ.out.2.1 HJ.out.2.2.1 HJ.out.2.2.2 rfl (by decide) _ L.length _ rfl HO2.out _ (some ⟨wr.heap.size, 0, none⟩) 2 2 _ rfl HRd.out (u8s_one _) HMx.out HBy.out HBz.out ?_; intro v5 w5 hown5 hg5 _; rw [← u8s_snoc] at hown5; obtain ⟨A5, c5, rfl⟩ := own_formS hown5; have HO5 := Lib.hid hown5; have HB5 := Lib.hid (below_row HB2.out hg5 (own_ge HO2.out) HBz.out); clear hown5 hg5)
        --#3
        obtain ⟨L5, hL5⟩ : ∃ L5, L5 = L ++ [0, 127] := ⟨_, rfl⟩
        have hl5 : L5.length = L.length + 2 := by rw [hL5]; simp
        rw [← hL5, ← hl5] at HO5
        rw [← hl5]
        have HL5 := Lib.hid hL5; have Hl5 := Lib.hid hl5
        clear hL5 hc
        have hal : Below w5.heap.size w5 (w5.alloc (.cells #[.int .u8 (c : Int)] 5)) := (Below.refl _ _).alloc (Nat.le_refl _) _
        have HB6 := Lib.hid (HB5.out.trans (hal.mono HB5.out.size))
        have HO6 := Lib.hid (own_more HO5.out hal)
        have HRd6 := Lib.hid (row_reads w5 5 (u8s [c]) 1 1 rfl)
        have HBy6 : Hid ((L5.length + 1) * 1 ≤ 140737488355328) := Lib.hid (by omega)
        have HMx6 : Hid (L5.length + 1 ≤ maxLen) := Lib.hid (by unfold maxLen; omega)
        have HBz6 : Hid (w2.heap.size ≤ (w5.alloc (.cells #[.int .u8 (c : Int)] 5)).heap.size) := Lib.hid HB6.out.size
        clear hal hl5
        --#4
        go_wp2_with (at_builtin; refine wpList_append_any _ rfl _ _ 22 rfl w2.heap.size 5 i1 _ 1 1 Try.underlying22 HJ.out.1 HJ.out.2.1 HJ.out.2.2.1 HJ.out.2.2.2 rfl (by decide) _ L5.length _ rfl HO6.out _ (some ⟨w5.heap.size, 0, none⟩) 1 1 _ rfl HRd6.out (u8s_one _) HMx6.out HBy6.out HBz6.out ?_; intro v6 w6 hown6 hg6 _)
        go_roundw
        case rel => exact ⟨k + 1, L5 ++ [c], by omega, by go_num, by rw [u8s_snoc, List.length_append]; exact hown6, below_row HB6.out hg6 (own_ge HO6.out) HBz6.out, by rw [HSp.out, plainL_snoc, HL5.out, plainL_app, HPl.out]; simp [plainL, plainC], by have := Hl5.out; simp; omega, fun y hy => by
          rcases List.mem_append.1 hy with h | h
          · rw [HL5.out] at h
            rcases List.mem_append.1 h with h | h
            · exact HLt.out y h
            · simp at h; omega
          · obtain rfl : y = c := by simpa using h
            exact hc256⟩
        case measure => simp [intOf]; omega
      · --#1
        have hal : Below wr.heap.size wr (wr.alloc (.cells #[.int .u8 (c : Int)] 5)) := (Below.refl _ _).alloc (Nat.le_refl _) _
        have HB2 := Lib.hid (HW.out.bel.trans (hal.mono HW.out.bel.size))
        have HO2 := Lib.hid (own_more HW.out.own hal)
        have HRd := Lib.hid (row_reads wr 5 (u8s [c]) 1 1 rfl)
        have HBy : Hid ((L.length + 1) * 1 ≤ 140737488355328) := Lib.hid (by omega)
        have HMx : Hid (L.length + 1 ≤ maxLen) := Lib.hid (by unfold maxLen; omega)
        have HBz : Hid (w2.heap.size ≤ (wr.alloc (.cells #[.int .u8 (c : Int)] 5)).heap.size) := Lib.hid HB2.out.size
        have HLt := Lib.hid HW.out.lt
        have HPl := Lib.hid HW.out.pl
        clear hal
        (try subst ec)
        subst ea
        go_wp2_with (at_builtin; refine wpList_append_any _ rfl _ _ 22 rfl w2.heap.size 5 i1 _ 1 1 Try.underlying22 HJ.out.1 HJ.out.2.1 HJ.out.2.2.1 HJ.out.2.2.2 rfl (by decide) _ L.length _ rfl HO2.out _ (some ⟨wr.heap.size, 0, none⟩) 1 1 _ rfl HRd.out (u8s_one _) HMx.out HBy.out HBz.out ?_; intro v6 w6 hown6 hg6 _)
        go_roundw
        case rel => exact ⟨k + 1, L ++ [c], by omega, by go_num, by rw [u8s_snoc, List.length_append]; exact hown6, below_row HB2.out hg6 (own_ge HO2.out) HBz.out, by rw [HSp.out, plainL_snoc, HPl.out], by simp; omega, fun y hy => by
          rcases List.mem_append.1 hy with h | h
          · exact HLt.out y h
          · obtain rfl : y = c := by simpa using h
            exact hc256⟩
        case measure => simp [intOf]; omega
    · obtain rfl : k = ms.length := by omega
      have k1 : ((ms.length : Int) < (ms.length : Int)) = False := eq_false (by omega)
      have hpl := HW.out.pl
      rw [List.take_length] at hpl
      have hfe := feed_plain hpl
      have HSpl := Lib.hid (refSplitF_any A c2 ms HMb.out (by omega) wr (HR2.out.next HW.out.bel))
      have hll := HW.out.len
      --#5
      go_wp2_with fail
      refine HSpl.out.mono ?_
      rintro e w4 ⟨⟨A4, c4, rfl, hr4⟩, hb4⟩
      have HW4 := Lib.hid (show w4.ownsRow w2.heap.size 5 1 (.slice A1 L.length c1) L.length (u8s L) from own_more HW.out.own hb4)
      have HB4 := Lib.hid (HB1.out.trans ((HW.out.bel.trans (hb4.mono HW.out.bel.size)).mono HB1.out.size))
      have HR4 := Lib.hid hr4
      have HLt := Lib.hid HW.out.lt
      have HSz := Lib.hid (szs_feed ms HMb.out)
      have HFf := Lib.hid (feedL_facts ps0 R0 ms)
      clear hr4 hb4 HSpl HW hpl
      --#6
      go_upto_region 13 with fail
      go_upto_region 14 with (refine wpList_alloc_ps rfl rfl ?_)
      have hal : Below w4.heap.size w4 (w4.alloc (.cells ps0.cells.toArray 38)) := (Below.refl _ _).alloc (Nat.le_refl _) _
      have HB5 := Lib.hid (HB4.out.trans (hal.mono HB4.out.size))
      have HFe := Lib.hid (feed_any w4.heap.size ps0 R0 A1 c1 L HLt.out (by omega) (far_new (Reads.of_own HW4.out) (Nat.le_refl _)) _ (ps_new w4) ((show RByt w4 A1 L from Reads.of_own HW4.out).next hal))
      have HR5 : Hid (∀ w6, (w4.alloc (.cells ps0.cells.toArray 38)).grownBy w6 (some w4.heap.size) → RTs w6 A4 (feedL ps0 ms).2) := Lib.hid (fun w6 hg => HR4.out.next (below_of_grown hal hg (Nat.le_refl _) hal.size))
      have HZ5 := Lib.hid (show w4.heap.size < (w4.alloc (.cells ps0.cells.toArray 38)).heap.size by simp)
      rw [hfe] at HFe
      clear hal HR4 HW4
      generalize w4.alloc (.cells ps0.cells.toArray 38) = w5 at *
      have hws : w.heap.size ≤ w4.heap.size := HB4.out.size
      generalize w4.heap.size = g at *
      generalize feedL ps0 ms = r at *
      obtain ⟨st, ts⟩ := r
      dsimp only at *
      --#7
      go_wp2_with fail
      refine HFe.out.mono ?_
      rintro e w6 ⟨v6, rfl, hw6⟩
      have HPp := Lib.hid hw6.prs
      have HB6 := Lib.hid (below_of_grown HB5.out hw6.gro hws HB5.out.size)
      obtain ⟨A6, c6, rfl, hr6⟩ := hw6.tok.reads
      have HR6 : Hid (RTs w6 A4 ts) := Lib.hid (HR5.out w6 hw6.gro)
      have HAre := Lib.hid (are_any A6 c6 ts A4 c4 ts (by have := HFf.out.2; omega) HSz.out HSz.out w6 hr6 HR6.out)
      clear hw6 hr6 HFe HB5 HR5
      go_wp2_with fail
      refine HAre.out.mono ?_
      rintro e w7 ⟨⟨b, rfl, hbq⟩, hb7⟩
      obtain rfl : b = true := hbq.2 (areP_self ts)
      have HB7 := Lib.hid (HB6.out.trans (hb7.mono HB6.out.size))
      have HI1 := Lib.hid (idle_any g st w7 (HPp.out.next hb7))
      clear hb7 hbq HAre HB6 HPp
      generalize (st.pl == 0) = z at *
      go_wp2_with fail
      refine HI1.out.mono ?_
      rintro e wx ⟨rfl, rfl⟩
      cases z
      all_goals
        go_wp2_with fail
        go_ret
        exact ⟨rfl, HB7.out⟩

set_option maxRecDepth 100000 in
/-- What the walk gives, for every argument and every world that holds the table. -/
theorem contract (H : Type) (enc : TypeId × Value → H) (W : World) (base : Nat) (args : Array Value) (ds gs : List (DataW H)) (before : List MemPlace)
    (hval : ∀ (j : Nat) t v, Try.f9.params[j]? = some t → args[j]? = some v → Value.okWide Try.prog W .any base t v)
    (hW : DataW.Whole enc Try.prog Try.f9.params.toList Rows.parserNothingSpec.vars false W args.toList ds gs before) (_hL : laidMetH Try.prog Rows.parserNothingRow.laid W)
    (hreach : (DataW.weightsEach Try.prog (Try.f9.params.toList ++ []) (ds ++ gs)).all (· ≤ reachBytes) = true) :
    Calls Try.prog 9 args W fun e W' => ∃ v, e = .returned v ∧ Rows.parserNothingSpec.post enc Try.prog Try.f9 false true false false W args v W' := by
  have hW' := hW
  clear _hL
  have hlts : ∀ x ∈ before, x.block < W.heap.size := fun x hx => hW'.lt x hx
  obtain ⟨p, q, hA0, hV, rfl, hfz, hnd⟩ := hW
  have hA : DataW.TrodAll enc Try.prog W 0 (fun _ => true) true Try.f9.params.toList args.toList ds p := hA0
  rw [Try.params9] at hA hval hreach
  obtain ⟨v0, vs0, d0, ds0, pp0, qq0, hargs, rfl, rfl, h0, rr0⟩ := trodAll_cons hA
  obtain ⟨v1, vs1, d1, ds1, pp1, qq1, rfl, rfl, rfl, h1, rr1⟩ := trodAll_cons rr0
  obtain ⟨rfl, rfl, rfl⟩ := trodAll_nil rr1
  obtain rfl : args = #[v0, v1] := by cases args; simp_all
  obtain ⟨rfl, rfl⟩ := trodVars_none hV
  obtain ⟨b0, len0, cap0, rfl⟩ := okWide_slice Try.underlying22 (hval 0 22 v0 rfl rfl)
  obtain ⟨l0, hlen0, hm0, hc0, ok0, hri0⟩ := bytes_inP h0
  subst hlen0
  obtain ⟨b1, len1, cap1, rfl⟩ := okWide_slice Try.underlying28 (hval 1 28 v1 rfl rfl)
  have hin1 := ints_in2 h1 (fun el sp e => by subst e; exact sized_slice hreach (j := 1) rfl rfl Try.underlying28)
  obtain ⟨ns1, hlen1, hm1, hc1, hri1⟩ := hin1
  subst hlen1
  clear hA0
  refine (walk b0 cap0 l0 hm0 hc0 ok0 b1 cap1 ns1 hm1 hc1 W hri0 hri1).mono fun e W' ⟨he, hb⟩ => ?_
  subst he
  exact ⟨_, rfl, post_law laidOut (by kernel_rfl) (by kernel_rfl) rfl hW' rfl hb⟩

set_option maxRecDepth 100000 in
theorem laid_met (os : Os) : laidMet Try.prog Rows.parserNothingRow.laid ((laidWorld os).forCall (fun _ _ => 0) ⟨#[], #[Value.slice none 0 0, Value.slice none 0 0], []⟩).memory :=
  laidMet_of_run' 8 (by kernel_rfl) (by kernel_rfl)
set_option maxRecDepth 100000 in
theorem reads (os : Os) {H : Type} (enc : TypeId × Value → H) : ∃ places, DataW.whole enc Try.prog ((laidWorld os).forCall (fun _ _ => 0) ⟨#[], #[Value.slice none 0 0, Value.slice none 0 0], []⟩).memory Try.f9.params.toList Rows.parserNothingSpec.vars false (#[Value.slice none 0 0, Value.slice none 0 0] : Array Value).toList 8 = some ([.nil, .nil], [], places) :=
  ⟨[], by kernel_rfl⟩

set_option maxRecDepth 100000 in
theorem lifted (os : Os) (started : os.Started) (H : Type) (enc : TypeId × Value → H) (F : Stop.Interp) :
    ReturnsInHanded {} Try.checked os 9 .any ((OpenSpec.ofChange Rows.parserNothingSpec).preRow enc Try.prog Try.f9 Rows.parserNothingRow.domain false Rows.parserNothingRow.laid) (((OpenSpec.ofChange Rows.parserNothingSpec).at F).post enc Try.prog Try.f9 false true false false) := by
  obtain ⟨places, hx⟩ := reads os enc
  refine returnsInHanded_of_row (C := Try.checked) (s := OpenSpec.ofChange Rows.parserNothingSpec) own started (by kernel_rfl) Try.func9
    (witness_row_at (enc := enc) (C := Try.checked) false (laidWorld os) #[Value.slice none 0 0, Value.slice none 0 0] rfl (by kernel_rfl) (by kernel_rfl) (by kernel_rfl)
      (OpenSpec.preRow_of_cond 8 hx (by kernel_rfl) (fun k hk => by cases hk) (by kernel_rfl) (laid_met os))) ?_
  intro W base args ds gs before hval hW _ _ hreach hL _ _
  exact contract H enc W base args ds gs before hval hW hL hreach

theorem said : Rows.ParserNothingSaid :=
  OpenClaim.holds_of_cond 9 Try.f9 rfl rfl rfl rfl rfl rfl rfl ⟨rfl, rfl, rfl, rfl, rfl⟩ rfl rfl rfl rfl rfl (by kernel_rfl) Try.func9 (by kernel_rfl)
    (of_decide_eq_true (by kernel_rfl)) (by unfold Func.isWrapper; first | (rw [if_pos (by decide +kernel)]; kernel_rfl) | (rw [if_neg (by decide +kernel)]; exact ⟨rfl, rfl⟩))
    (fun os started H enc _ F => by rw [OpenClaim.pre_eq_preRow]; exact lifted os started H enc F)

#print axioms said
end Go.Proofs.Ytdmiihmaijbkfaa.parserNothing

/-
  ParserChunks holds, whatever the input.
-/
import Derived.Test.YtdmiihmaijbkfaaFrame0
import Derived.Test.YtdmiihmaijbkfaaPrsY
import Derived.Test.YtdmiihmaijbkfaaFrameE
import Derived.Test.YtdmiihmaijbkfaaFramePn
namespace Go.Proofs.Ytdmiihmaijbkfaa.parserChunks
open Go.ChangeShapes Go.WideShapes Go.ChangeAt Go.RowKit
open Go.ChangeMaps (open_string)

set_option maxRecDepth 100000 in
set_option maxHeartbeats 16000000 in
theorem walk (A : Option Addr) (cap : Nat) (ns : List Nat) (_hm : ns.length ≤ maxLen) (hcap : ns.length ≤ cap) (hn : ∀ x ∈ ns, x < 256) (C : Option Addr) (cc : Nat) (cs : List Int) (hml : cs.length ≤ 17592186043904) (_hcc : cs.length ≤ cc) (w : World) (hri : RByt w A ns) (hrc : RInts w C cs) :
    Calls Try.prog 4 #[.slice A ns.length cap, .slice C cs.length cc] w fun e w' => e = .returned (.bool true) ∧ Below w.heap.size w w' := by
  have HAw := Lib.hid (prsAwake_any w)
  have HSh := Lib.hid (fun W => short_any A cap ns 3000 (by decide) hcap W)
  have HMl : Hid ((ns.take 3000).length ≤ 3000) := Lib.hid (by simp; omega)
  have HMb : Hid (∀ x ∈ ns.take 3000, x < 256) := Lib.hid (fun x hx => hn x (List.mem_of_mem_take hx))
  have HR := Lib.hid (hri.takeP 3000)
  have HRc := Lib.hid hrc
  clear hri hn hcap hrc
  generalize ns.take 3000 = ms at *
  have hmL : ms.length ≤ 3000 := HMl.out
  have hcL : cs.length ≤ 9223372036854775807 := by omega
  clear hml
  obtain ⟨i0, hi0, hi1, hi2, hi3⟩ := info_tk
  have HI := Lib.hid (And.intro hi0 (And.intro hi1 (And.intro hi2 hi3)))
  clear hi0 hi1 hi2 hi3
  go_enter Try.func4, Try.ntmps4
  go_wp2_with fail
  refine HAw.out.mono ?_
  rintro e w1 ⟨rfl, hb⟩
  have HB1 := Lib.hid hb
  clear hb HAw
  go_wp2_with fail
  refine (HSh.out _).mono ?_
  rintro e w2 ⟨c2, rfl, rfl, hc2⟩
  clear HSh
  have HR2 := Lib.hid (HR.out.next HB1.out)
  have HC2 := Lib.hid (HRc.out.next HB1.out)
  clear HR HRc
  go_upto_region 4 with fail
  go_upto_region 5 with (refine wpList_alloc_ps rfl rfl ?_)
  have hz : (w2.alloc (.cells ps0.cells.toArray 38)).heap.size = w2.heap.size + 1 := by simp
  have HP0 : Hid (PsB ((w2.alloc (.cells ps0.cells.toArray 38)).alloc (.cells ps0.cells.toArray 38)) w2.heap.size ps0) := Lib.hid ((ps_new w2).next ((Below.refl _ _).alloc (Nat.le_refl _) _))
  have HQ0 : Hid (PsB ((w2.alloc (.cells ps0.cells.toArray 38)).alloc (.cells ps0.cells.toArray 38)) (w2.heap.size + 1) ps0) := Lib.hid (by have := ps_new (w2.alloc (.cells ps0.cells.toArray 38)); rw [hz] at this; exact this)
  have HB3 : Hid (Below w2.heap.size w2 ((w2.alloc (.cells ps0.cells.toArray 38)).alloc (.cells ps0.cells.toArray 38))) := Lib.hid ((((Below.refl _ w2).alloc (Nat.le_refl _) _)).alloc (by simp) _)
  have HZ3 : Hid (((w2.alloc (.cells ps0.cells.toArray 38)).alloc (.cells ps0.cells.toArray 38)).heap.size = w2.heap.size + 2) := Lib.hid (by simp)
  rw [hz]
  generalize (w2.alloc (.cells ps0.cells.toArray 38)).alloc (.cells ps0.cells.toArray 38) = w3 at *
  clear hz
  have HFe := Lib.hid (feed_any w2.heap.size ps0 R0 A c2 ms HMb.out (by omega) (far_new HR2.out (Nat.le_refl _)) w3 HP0.out (HR2.out.next HB3.out))
  have HFar : Hid (∀ ad, 0 < ms.length → A = some ad → ad.block ≠ w2.heap.size + 1) := Lib.hid (far_new HR2.out (by omega))
  have HFar0 : Hid (∀ ad, 0 < ms.length → A = some ad → ad.block ≠ w2.heap.size) := Lib.hid (far_new HR2.out (Nat.le_refl _))
  have HFc : Hid (∀ ad, 0 < cs.length → C = some ad → ad.block ≠ w2.heap.size + 1) := Lib.hid (fun ad h0 e => by have := rints_blk HC2.out ad h0 e; omega)
  have HFc0 : Hid (∀ ad, 0 < cs.length → C = some ad → ad.block ≠ w2.heap.size) := Lib.hid (fun ad h0 e => by have := rints_blk HC2.out ad h0 e; omega)
  have HFw := Lib.hid (feedL_facts ps0 R0 ms)
  have HSz : Hid (∀ t ∈ (feedL ps0 ms).2, t.szs) := Lib.hid (szs_feed ms HMb.out)
  go_wp2_with fail
  refine HFe.out.mono ?_
  rintro e w4 ⟨v7, rfl, hw⟩
  have HW7 := Lib.hid hw
  have HR4 := Lib.hid (rbyt_grown' (HR2.out.next HB3.out) hw.gro HFar0.out)
  have HC4 := Lib.hid (rints_grown (HC2.out.next HB3.out) hw.gro HFc0.out)
  have HB4 := Lib.hid (HB1.out.trans ((below_of_grown HB3.out hw.gro (Nat.le_refl _) (by rw [HZ3.out]; omega)).mono HB1.out.size))
  have HQ4 : Hid (PsB w4 (w2.heap.size + 1) ps0) := Lib.hid ⟨(hw.gro.block (w2.heap.size + 1) (by rw [HZ3.out]; omega) (by simp)).trans HQ0.out.blk, ps0_ok⟩
  have HZ4 : Hid (w2.heap.size + 2 ≤ w4.heap.size) := Lib.hid (by have := hw.gro.size; rw [HZ3.out] at this; exact this)
  clear hw HFe HP0 HQ0 HB3 HR2 HC2 HFar0 HFc0
  have HGx : Hid (w.heap.size ≤ w2.heap.size) := Lib.hid HB1.out.size
  clear HB1
  generalize w2.heap.size = g at *
  have HW0 := Lib.hid (show FdW w4 w4 (g + 1) (feedL ps0 (ms.take 0)) (.slice none 0 0) from ⟨OTks.nil _ _, HQ4.out, grown_refl _ _, R0, HQ4.out.lt⟩)
  clear HQ4
  go_upto_region 9 with fail
  go_loopw [8, 9, 10] (fun v x y wr => ∃ a i : Nat, a ≤ ms.length ∧ x = .int .i64 a ∧ y = .int .i64 i ∧ (i ≤ 200 ∨ (i = 201 ∧ a = ms.length)) ∧ FdW w4 wr (g + 1) (feedL ps0 (ms.take a)) v) (fun _ _ y _ => 201 - (intOf y).toNat)
  case atStart => exact ⟨0, 0, by omega, rfl, rfl, by omega, HW0.out⟩
  case round =>
    obtain ⟨a, i, ha, rfl, rfl, hi, hw⟩ := hrel
    have HW := Lib.hid hw
    clear hw HW0
    have HRm := Lib.hid (rbyt_grown' HR4.out HW.out.gro HFar.out)
    by_cases hlt : a < ms.length
    · have hi2 : i ≤ 200 := by omega
      clear hi
      have m1 : ((a : Int) < (ms.length : Int)) = True := eq_true (by omega)
      by_cases hi3 : 200 ≤ i
      · have hi4 : ((200 : Int) ≤ (i : Int)) = True := eq_true (by omega)
        by_cases hm0 : 0 < cs.length
        · have m2 : ((0 : Int) < (cs.length : Int)) = True := eq_true (by omega)
          obtain ⟨j, hj, hT⟩ : ∃ j : Nat, j < cs.length ∧ Int.tmod (i : Int) (cs.length : Int) = (j : Int) := ⟨i % cs.length, Nat.mod_lt _ hm0, by rw [Int.tmod_eq_emod_of_nonneg (by omega)]; exact (Int.natCast_emod _ _).symm⟩
          obtain ⟨adc, ec, _, hcell⟩ := RInts.at_ (rints_grown HC4.out HW.out.gro HFc.out) hj
          rw [ec]
          have k0 : (0 : Int) ≤ (j : Int) := by omega
          have k1 : ((j : Int) < (cs.length : Int)) = True := eq_true (by omega)
          obtain ⟨n, hnL, hmm⟩ : ∃ n : Nat, n ≤ ms.length ∧ max (0 : Int) (min cs[j] (ms.length : Int)) = (n : Int) := ⟨(max (0 : Int) (min cs[j] (ms.length : Int))).toNat, by omega, by omega⟩
          generalize cs[j] = cj at *
          obtain ⟨b, hbx⟩ : ∃ b : Nat, b = min (a + ms.length) ms.length := ⟨_, rfl⟩
          have hab : a ≤ b := by omega
          have hbL : b ≤ ms.length := by omega
          have hstep : i < 200 ∨ (i = 200 ∧ b = ms.length) := by omega
          have hwa : IntKind.i64.wrap ((a : Int) + (ms.length : Int)) = (a : Int) + (ms.length : Int) := IntWalk.i64_in _ (by omega)
          have hmin : min ((a : Int) + (ms.length : Int)) (ms.length : Int) = (b : Int) := by omega
          have hwi : IntKind.i64.wrap ((i : Int) + 1) = (i : Int) + 1 := IntWalk.i64_in _ (by omega)
          have HS := Lib.hid (feedL_split ps0 ms a b hab)
          obtain ⟨A', c', hs, hr, hf, _⟩ := RByt.sub HRm.out hab hbL hc2
          have hsl := run_sub wr A ms.length c2 a b hab (by omega)
          rw [hs] at hsl
          have HMb' : Hid (∀ x ∈ (ms.take b).drop a, x < 256) := Lib.hid (fun x hx => HMb.out x (List.mem_of_mem_take (List.mem_of_mem_drop hx)))
          have HLs : Hid (((ms.take b).drop a).length ≤ 3000) := Lib.hid (by simp; omega)
          have HFe := Lib.hid (feed_any (g + 1) (feedL ps0 (ms.take a)).1 HW.out.pl A' c' ((ms.take b).drop a) HMb'.out (by have := HLs.out; omega) (fun ad h0 e => by obtain ⟨ad0, e0, e1⟩ := hf ad e h0; rw [e1]; exact HFar.out ad0 (by omega) e0) wr HW.out.prs hr)
          have HFf := Lib.hid (feedL_facts (feedL ps0 (ms.take a)).1 HW.out.pl ((ms.take b).drop a))
          have HFa : Hid ((feedL ps0 (ms.take a)).2.length ≤ 3000) := Lib.hid (by have := (feedL_facts ps0 R0 (ms.take a)).2; simp at this; omega)
          clear hs hr hf HMb'
          obtain ⟨r2, hr2⟩ : ∃ r2, feedL ps0 (ms.take b) = r2 := ⟨_, rfl⟩
          rw [hr2] at HS
          have HSx := Lib.hid hr2
          clear hr2 hbx
          generalize (ms.take b).drop a = sub at *
          generalize feedL ps0 (ms.take a) = r at *
          generalize feedL r.1 sub = q at *
          go_wp2_with fail
          refine HFe.out.mono ?_
          rintro e w5 ⟨v5, rfl, hw5⟩
          have HB5 := Lib.hid (show wr.heap.size ≤ w5.heap.size from hw5.gro.size)
          obtain ⟨ys, ho5, hot5⟩ := hw5.tok
          obtain ⟨A5, c5, rfl⟩ := own_formS ho5
          have HY := Lib.hid (hot5.more HW.out.gro.size)
          have HRd := Lib.hid (Reads.of_own ho5)
          have HY1 := Lib.hid (rt_one (RTl.of_own hot5))
          have HW5 := Lib.hid (HW.out.call hw5.prs hw5.gro hw5.pl)
          obtain ⟨xs, hox, hotx⟩ := HW5.out.tok
          have HOw := Lib.hid hox; have HOt := Lib.hid hotx
          have HMx : Hid (r.2.length + q.2.length ≤ maxLen) := Lib.hid (by have := HFf.out.2; have := HLs.out; have := HFa.out; unfold maxLen; omega)
          have HBy : Hid ((r.2.length + q.2.length) * i0.bytes ≤ 140737488355328) := Lib.hid (Nat.le_trans (Nat.mul_le_mul (show r.2.length + q.2.length ≤ 10000 by have := HFf.out.2; have := HLs.out; have := HFa.out; omega) HI.out.2.2.2) (by decide))
          have HBs : Hid (w4.heap.size ≤ w5.heap.size) := Lib.hid HW5.out.gro.size
          clear ho5 hot5 hw5 hox hotx HFe HFf HLs HFa HW hsl hwa hmin
          go_wp2_with (at_builtin; refine wpList_append_any _ rfl _ _ 39 rfl w4.heap.size 30 i0 _ 6 i0.bytes Try.underlying39 HI.out.1 HI.out.2.1 HI.out.2.2.1 rfl rfl (by decide) _ r.2.length _ rfl HOw.out _ A5 q.2.length c5 _ rfl HRd.out HY1.out HMx.out HBy.out HBs.out ?_; intro v6 w6 hown6 hg6 _)
          go_roundw
          case rel => exact ⟨b, i + 1, by omega, by go_num, by go_num, by omega, by rw [HSx.out, HS.out]; exact HW5.out.pushL HOw.out HOt.out HY.out hown6 hg6⟩
          case measure => simp [intOf]; omega
        · have m2 : ((0 : Int) < (cs.length : Int)) = False := eq_false (by omega)
          obtain ⟨b, hbx⟩ : ∃ b : Nat, b = min (a + ms.length) ms.length := ⟨_, rfl⟩
          have hab : a ≤ b := by omega
          have hbL : b ≤ ms.length := by omega
          have hstep : i < 200 ∨ (i = 200 ∧ b = ms.length) := by omega
          have hwa : IntKind.i64.wrap ((a : Int) + (ms.length : Int)) = (a : Int) + (ms.length : Int) := IntWalk.i64_in _ (by omega)
          have hmin : min ((a : Int) + (ms.length : Int)) (ms.length : Int) = (b : Int) := by omega
          have hwi : IntKind.i64.wrap ((i : Int) + 1) = (i : Int) + 1 := IntWalk.i64_in _ (by omega)
          have HS := Lib.hid (feedL_split ps0 ms a b hab)
          obtain ⟨A', c', hs, hr, hf, _⟩ := RByt.sub HRm.out hab hbL hc2
          have hsl := run_sub wr A ms.length c2 a b hab (by omega)
          rw [hs] at hsl
          have HMb' : Hid (∀ x ∈ (ms.take b).drop a, x < 256) := Lib.hid (fun x hx => HMb.out x (List.mem_of_mem_take (List.mem_of_mem_drop hx)))
          have HLs : Hid (((ms.take b).drop a).length ≤ 3000) := Lib.hid (by simp; omega)
          have HFe := Lib.hid (feed_any (g + 1) (feedL ps0 (ms.take a)).1 HW.out.pl A' c' ((ms.take b).drop a) HMb'.out (by have := HLs.out; omega) (fun ad h0 e => by obtain ⟨ad0, e0, e1⟩ := hf ad e h0; rw [e1]; exact HFar.out ad0 (by omega) e0) wr HW.out.prs hr)
          have HFf := Lib.hid (feedL_facts (feedL ps0 (ms.take a)).1 HW.out.pl ((ms.take b).drop a))
          have HFa : Hid ((feedL ps0 (ms.take a)).2.length ≤ 3000) := Lib.hid (by have := (feedL_facts ps0 R0 (ms.take a)).2; simp at this; omega)
          clear hs hr hf HMb'
          obtain ⟨r2, hr2⟩ : ∃ r2, feedL ps0 (ms.take b) = r2 := ⟨_, rfl⟩
          rw [hr2] at HS
          have HSx := Lib.hid hr2
          clear hr2 hbx
          generalize (ms.take b).drop a = sub at *
          generalize feedL ps0 (ms.take a) = r at *
          generalize feedL r.1 sub = q at *
          go_wp2_with fail
          refine HFe.out.mono ?_
          rintro e w5 ⟨v5, rfl, hw5⟩
          have HB5 := Lib.hid (show wr.heap.size ≤ w5.heap.size from hw5.gro.size)
          obtain ⟨ys, ho5, hot5⟩ := hw5.tok
          obtain ⟨A5, c5, rfl⟩ := own_formS ho5
          have HY := Lib.hid (hot5.more HW.out.gro.size)
          have HRd := Lib.hid (Reads.of_own ho5)
          have HY1 := Lib.hid (rt_one (RTl.of_own hot5))
          have HW5 := Lib.hid (HW.out.call hw5.prs hw5.gro hw5.pl)
          obtain ⟨xs, hox, hotx⟩ := HW5.out.tok
          have HOw := Lib.hid hox; have HOt := Lib.hid hotx
          have HMx : Hid (r.2.length + q.2.length ≤ maxLen) := Lib.hid (by have := HFf.out.2; have := HLs.out; have := HFa.out; unfold maxLen; omega)
          have HBy : Hid ((r.2.length + q.2.length) * i0.bytes ≤ 140737488355328) := Lib.hid (Nat.le_trans (Nat.mul_le_mul (show r.2.length + q.2.length ≤ 10000 by have := HFf.out.2; have := HLs.out; have := HFa.out; omega) HI.out.2.2.2) (by decide))
          have HBs : Hid (w4.heap.size ≤ w5.heap.size) := Lib.hid HW5.out.gro.size
          clear ho5 hot5 hw5 hox hotx HFe HFf HLs HFa HW hsl hwa hmin
          go_wp2_with (at_builtin; refine wpList_append_any _ rfl _ _ 39 rfl w4.heap.size 30 i0 _ 6 i0.bytes Try.underlying39 HI.out.1 HI.out.2.1 HI.out.2.2.1 rfl rfl (by decide) _ r.2.length _ rfl HOw.out _ A5 q.2.length c5 _ rfl HRd.out HY1.out HMx.out HBy.out HBs.out ?_; intro v6 w6 hown6 hg6 _)
          go_roundw
          case rel => exact ⟨b, i + 1, by omega, by go_num, by go_num, by omega, by rw [HSx.out, HS.out]; exact HW5.out.pushL HOw.out HOt.out HY.out hown6 hg6⟩
          case measure => simp [intOf]; omega
      · have hi4 : ((200 : Int) ≤ (i : Int)) = False := eq_false (by omega)
        by_cases hm0 : 0 < cs.length
        · have m2 : ((0 : Int) < (cs.length : Int)) = True := eq_true (by omega)
          obtain ⟨j, hj, hT⟩ : ∃ j : Nat, j < cs.length ∧ Int.tmod (i : Int) (cs.length : Int) = (j : Int) := ⟨i % cs.length, Nat.mod_lt _ hm0, by rw [Int.tmod_eq_emod_of_nonneg (by omega)]; exact (Int.natCast_emod _ _).symm⟩
          obtain ⟨adc, ec, _, hcell⟩ := RInts.at_ (rints_grown HC4.out HW.out.gro HFc.out) hj
          rw [ec]
          have k0 : (0 : Int) ≤ (j : Int) := by omega
          have k1 : ((j : Int) < (cs.length : Int)) = True := eq_true (by omega)
          obtain ⟨n, hnL, hmm⟩ : ∃ n : Nat, n ≤ ms.length ∧ max (0 : Int) (min cs[j] (ms.length : Int)) = (n : Int) := ⟨(max (0 : Int) (min cs[j] (ms.length : Int))).toNat, by omega, by omega⟩
          generalize cs[j] = cj at *
          obtain ⟨b, hbx⟩ : ∃ b : Nat, b = min (a + n) ms.length := ⟨_, rfl⟩
          have hab : a ≤ b := by omega
          have hbL : b ≤ ms.length := by omega
          have hstep : i < 200 ∨ (i = 200 ∧ b = ms.length) := by omega
          have hwa : IntKind.i64.wrap ((a : Int) + (n : Int)) = (a : Int) + (n : Int) := IntWalk.i64_in _ (by omega)
          have hmin : min ((a : Int) + (n : Int)) (ms.length : Int) = (b : Int) := by omega
          have hwi : IntKind.i64.wrap ((i : Int) + 1) = (i : Int) + 1 := IntWalk.i64_in _ (by omega)
          have HS := Lib.hid (feedL_split ps0 ms a b hab)
          obtain ⟨A', c', hs, hr, hf, _⟩ := RByt.sub HRm.out hab hbL hc2
          have hsl := run_sub wr A ms.length c2 a b hab (by omega)
          rw [hs] at hsl
          have HMb' : Hid (∀ x ∈ (ms.take b).drop a, x < 256) := Lib.hid (fun x hx => HMb.out x (List.mem_of_mem_take (List.mem_of_mem_drop hx)))
          have HLs : Hid (((ms.take b).drop a).length ≤ 3000) := Lib.hid (by simp; omega)
          have HFe := Lib.hid (feed_any (g + 1) (feedL ps0 (ms.take a)).1 HW.out.pl A' c' ((ms.take b).drop a) HMb'.out (by have := HLs.out; omega) (fun ad h0 e => by obtain ⟨ad0, e0, e1⟩ := hf ad e h0; rw [e1]; exact HFar.out ad0 (by omega) e0) wr HW.out.prs hr)
          have HFf := Lib.hid (feedL_facts (feedL ps0 (ms.take a)).1 HW.out.pl ((ms.take b).drop a))
          have HFa : Hid ((feedL ps0 (ms.take a)).2.length ≤ 3000) := Lib.hid (by have := (feedL_facts ps0 R0 (ms.take a)).2; simp at this; omega)
          clear hs hr hf HMb'
          obtain ⟨r2, hr2⟩ : ∃ r2, feedL ps0 (ms.take b) = r2 := ⟨_, rfl⟩
          rw [hr2] at HS
          have HSx := Lib.hid hr2
          clear hr2 hbx
          generalize (ms.take b).drop a = sub at *
          generalize feedL ps0 (ms.take a) = r at *
          generalize feedL r.1 sub = q at *
          go_wp2_with fail
          refine HFe.out.mono ?_
          rintro e w5 ⟨v5, rfl, hw5⟩
          have HB5 := Lib.hid (show wr.heap.size ≤ w5.heap.size from hw5.gro.size)
          obtain ⟨ys, ho5, hot5⟩ := hw5.tok
          obtain ⟨A5, c5, rfl⟩ := own_formS ho5
          have HY := Lib.hid (hot5.more HW.out.gro.size)
          have HRd := Lib.hid (Reads.of_own ho5)
          have HY1 := Lib.hid (rt_one (RTl.of_own hot5))
          have HW5 := Lib.hid (HW.out.call hw5.prs hw5.gro hw5.pl)
          obtain ⟨xs, hox, hotx⟩ := HW5.out.tok
          have HOw := Lib.hid hox; have HOt := Lib.hid hotx
          have HMx : Hid (r.2.length + q.2.length ≤ maxLen) := Lib.hid (by have := HFf.out.2; have := HLs.out; have := HFa.out; unfold maxLen; omega)
          have HBy : Hid ((r.2.length + q.2.length) * i0.bytes ≤ 140737488355328) := Lib.hid (Nat.le_trans (Nat.mul_le_mul (show r.2.length + q.2.length ≤ 10000 by have := HFf.out.2; have := HLs.out; have := HFa.out; omega) HI.out.2.2.2) (by decide))
          have HBs : Hid (w4.heap.size ≤ w5.heap.size) := Lib.hid HW5.out.gro.size
          clear ho5 hot5 hw5 hox hotx HFe HFf HLs HFa HW hsl hwa hmin
          go_wp2_with (at_builtin; refine wpList_append_any _ rfl _ _ 39 rfl w4.heap.size 30 i0 _ 6 i0.bytes Try.underlying39 HI.out.1 HI.out.2.1 HI.out.2.2.1 rfl rfl (by decide) _ r.2.length _ rfl HOw.out _ A5 q.2.length c5 _ rfl HRd.out HY1.out HMx.out HBy.out HBs.out ?_; intro v6 w6 hown6 hg6 _)
          go_roundw
          case rel => exact ⟨b, i + 1, by omega, by go_num, by go_num, by omega, by rw [HSx.out, HS.out]; exact HW5.out.pushL HOw.out HOt.out HY.out hown6 hg6⟩
          case measure => simp [intOf]; omega
        · have m2 : ((0 : Int) < (cs.length : Int)) = False := eq_false (by omega)
          obtain ⟨b, hbx⟩ : ∃ b : Nat, b = min (a + 1) ms.length := ⟨_, rfl⟩
          have hab : a ≤ b := by omega
          have hbL : b ≤ ms.length := by omega
          have hstep : i < 200 ∨ (i = 200 ∧ b = ms.length) := by omega
          have hwa : IntKind.i64.wrap ((a : Int) + 1) = (a : Int) + 1 := IntWalk.i64_in _ (by omega)
          have hmin : min ((a : Int) + 1) (ms.length : Int) = (b : Int) := by omega
          have hwi : IntKind.i64.wrap ((i : Int) + 1) = (i : Int) + 1 := IntWalk.i64_in _ (by omega)
          have HS := Lib.hid (feedL_split ps0 ms a b hab)
          obtain ⟨A', c', hs, hr, hf, _⟩ := RByt.sub HRm.out hab hbL hc2
          have hsl := run_sub wr A ms.length c2 a b hab (by omega)
          rw [hs] at hsl
          have HMb' : Hid (∀ x ∈ (ms.take b).drop a, x < 256) := Lib.hid (fun x hx => HMb.out x (List.mem_of_mem_take (List.mem_of_mem_drop hx)))
          have HLs : Hid (((ms.take b).drop a).length ≤ 3000) := Lib.hid (by simp; omega)
          have HFe := Lib.hid (feed_any (g + 1) (feedL ps0 (ms.take a)).1 HW.out.pl A' c' ((ms.take b).drop a) HMb'.out (by have := HLs.out; omega) (fun ad h0 e => by obtain ⟨ad0, e0, e1⟩ := hf ad e h0; rw [e1]; exact HFar.out ad0 (by omega) e0) wr HW.out.prs hr)
          have HFf := Lib.hid (feedL_facts (feedL ps0 (ms.take a)).1 HW.out.pl ((ms.take b).drop a))
          have HFa : Hid ((feedL ps0 (ms.take a)).2.length ≤ 3000) := Lib.hid (by have := (feedL_facts ps0 R0 (ms.take a)).2; simp at this; omega)
          clear hs hr hf HMb'
          obtain ⟨r2, hr2⟩ : ∃ r2, feedL ps0 (ms.take b) = r2 := ⟨_, rfl⟩
          rw [hr2] at HS
          have HSx := Lib.hid hr2
          clear hr2 hbx
          generalize (ms.take b).drop a = sub at *
          generalize feedL ps0 (ms.take a) = r at *
          generalize feedL r.1 sub = q at *
          go_wp2_with fail
          refine HFe.out.mono ?_
          rintro e w5 ⟨v5, rfl, hw5⟩
          have HB5 := Lib.hid (show wr.heap.size ≤ w5.heap.size from hw5.gro.size)
          obtain ⟨ys, ho5, hot5⟩ := hw5.tok
          obtain ⟨A5, c5, rfl⟩ := own_formS ho5
          have HY := Lib.hid (hot5.more HW.out.gro.size)
          have HRd := Lib.hid (Reads.of_own ho5)
          have HY1 := Lib.hid (rt_one (RTl.of_own hot5))
          have HW5 := Lib.hid (HW.out.call hw5.prs hw5.gro hw5.pl)
          obtain ⟨xs, hox, hotx⟩ := HW5.out.tok
          have HOw := Lib.hid hox; have HOt := Lib.hid hotx
          have HMx : Hid (r.2.length + q.2.length ≤ maxLen) := Lib.hid (by have := HFf.out.2; have := HLs.out; have := HFa.out; unfold maxLen; omega)
          have HBy : Hid ((r.2.length + q.2.length) * i0.bytes ≤ 140737488355328) := Lib.hid (Nat.le_trans (Nat.mul_le_mul (show r.2.length + q.2.length ≤ 10000 by have := HFf.out.2; have := HLs.out; have := HFa.out; omega) HI.out.2.2.2) (by decide))
          have HBs : Hid (w4.heap.size ≤ w5.heap.size) := Lib.hid HW5.out.gro.size
          clear ho5 hot5 hw5 hox hotx HFe HFf HLs HFa HW hsl hwa hmin
          go_wp2_with (at_builtin; refine wpList_append_any _ rfl _ _ 39 rfl w4.heap.size 30 i0 _ 6 i0.bytes Try.underlying39 HI.out.1 HI.out.2.1 HI.out.2.2.1 rfl rfl (by decide) _ r.2.length _ rfl HOw.out _ A5 q.2.length c5 _ rfl HRd.out HY1.out HMx.out HBy.out HBs.out ?_; intro v6 w6 hown6 hg6 _)
          go_roundw
          case rel => exact ⟨b, i + 1, by omega, by go_num, by go_num, by omega, by rw [HSx.out, HS.out]; exact HW5.out.pushL HOw.out HOt.out HY.out hown6 hg6⟩
          case measure => simp [intOf]; omega
    · obtain rfl : a = ms.length := by omega
      have m1 : ((ms.length : Int) < (ms.length : Int)) = False := eq_false (by omega)
      rw [List.take_length] at HW
      clear hlt hi ha HRm
      have HNi := Lib.hid (feed_any (g + 1) (feedL ps0 ms).1 HW.out.pl none 0 [] (by simp) (by simp) (fun ad h0 _ => by simp at h0) wr HW.out.prs (rbyt_nil wr))
      rw [feedL_nil] at HNi
      go_wp2_with fail
      refine HNi.out.mono ?_
      rintro e w5 ⟨v5, rfl, hw5⟩
      have HW5 := Lib.hid (HW.out.call hw5.prs hw5.gro hw5.pl)
      clear hw5 HNi HW
      have hgg := HW5.out.gro
      have HWh := Lib.hid (HW7.out.tok.keep hgg (fun k hk => by cases hk; rw [HZ3.out]; omega))
      have HPp : Hid (PsB w5 g (feedL ps0 ms).1) := Lib.hid ⟨(hgg.block g (by have := HZ4.out; omega) (by simp)).trans HW7.out.prs.blk, HW7.out.prs.ok⟩
      have HQp := Lib.hid HW5.out.prs
      have HB5 := Lib.hid (show Below w.heap.size w w5 from below_of_grown HB4.out hgg (by have := HGx.out; omega) HB4.out.size)
      obtain ⟨A7, c7, rfl, hr7⟩ := HWh.out.reads
      obtain ⟨A8, c8, rfl, hr8⟩ := HW5.out.tok.reads
      clear hgg HW7 HW5 HWh
      generalize feedL ps0 ms = r at *
      obtain ⟨s, ts⟩ := r
      dsimp only at *
      have HAll := Lib.hid (all_any A7 c7 ts (by have := HFw.out.2; omega) w5 hr7)
      have HR8 := Lib.hid hr8
      clear hr7 hr8
      go_wp2_with fail
      refine HAll.out.mono ?_
      rintro e w6 ⟨⟨A9, c9, rfl, hr9⟩, hb6⟩
      have HB6 := Lib.hid (HB5.out.trans (hb6.mono HB5.out.size))
      have HPp6 := Lib.hid (HPp.out.next hb6)
      have HQp6 := Lib.hid (HQp.out.next hb6)
      have HAre := Lib.hid (are_any A8 c8 ts A9 c9 ts (by have := HFw.out.2; omega) HSz.out HSz.out w6 (HR8.out.next hb6) hr9)
      clear HAll hb6 hr9 HB5 HPp HQp HR8
      go_wp2_with fail
      refine HAre.out.mono ?_
      rintro e w7 ⟨⟨b, rfl, hbq⟩, hb7⟩
      obtain rfl : b = true := hbq.2 (areP_self ts)
      have HB7 := Lib.hid (HB6.out.trans (hb7.mono HB6.out.size))
      have HPp7 := Lib.hid (HPp6.out.next hb7)
      have HQp7 := Lib.hid (HQp6.out.next hb7)
      clear HAre hb7 hbq HB6 HPp6 HQp6
      have HS1 := Lib.hid (sameP_any g (g + 1) s w7 HPp7.out HQp7.out)
      go_wp2_with fail
      refine HS1.out.mono ?_
      rintro e w8 ⟨rfl, hb8⟩
      have HB8 := Lib.hid (HB7.out.trans (hb8.mono HB7.out.size))
      have HPp8 := Lib.hid (HPp7.out.next hb8)
      have HQp8 := Lib.hid (HQp7.out.next hb8)
      clear hb8 HS1 HB7 HPp7 HQp7
      have HS2 := Lib.hid (sameP_any (g + 1) g s w8 HQp8.out HPp8.out)
      go_wp2_with fail
      refine HS2.out.mono ?_
      rintro e w9 ⟨rfl, hb9⟩
      have HB9 := Lib.hid (HB8.out.trans (hb9.mono HB8.out.size))
      have HPp9 := Lib.hid (HPp8.out.next hb9)
      have HQp9 := Lib.hid (HQp8.out.next hb9)
      clear hb9 HS2 HB8 HPp8 HQp8
      have HI1 := Lib.hid (idle_any g s w9 HPp9.out)
      have HI2 := Lib.hid (idle_any (g + 1) s w9 HQp9.out)
      generalize (s.pl == 0) = z at *
      go_wp2_with fail
      refine HI1.out.mono ?_
      rintro e wx ⟨rfl, rfl⟩
      go_wp2_with fail
      refine HI2.out.mono ?_
      rintro e wx ⟨rfl, rfl⟩
      go_wp2_with fail
      go_ret
      exact ⟨by simp, HB9.out⟩

set_option maxRecDepth 100000 in
/-- What the walk gives, for every argument and every world that holds the table. -/
theorem contract (H : Type) (enc : TypeId × Value → H) (W : World) (base : Nat) (args : Array Value) (ds gs : List (DataW H)) (before : List MemPlace)
    (hval : ∀ (j : Nat) t v, Try.f4.params[j]? = some t → args[j]? = some v → Value.okWide Try.prog W .any base t v)
    (hW : DataW.Whole enc Try.prog Try.f4.params.toList Rows.parserChunksSpec.vars false W args.toList ds gs before) (_hL : laidMetH Try.prog Rows.parserChunksRow.laid W)
    (hreach : (DataW.weightsEach Try.prog (Try.f4.params.toList ++ []) (ds ++ gs)).all (· ≤ reachBytes) = true) :
    Calls Try.prog 4 args W fun e W' => ∃ v, e = .returned v ∧ Rows.parserChunksSpec.post enc Try.prog Try.f4 false true false false W args v W' := by
  have hW' := hW
  clear _hL
  have hlts : ∀ x ∈ before, x.block < W.heap.size := fun x hx => hW'.lt x hx
  obtain ⟨p, q, hA0, hV, rfl, hfz, hnd⟩ := hW
  have hA : DataW.TrodAll enc Try.prog W 0 (fun _ => true) true Try.f4.params.toList args.toList ds p := hA0
  rw [Try.params4] at hA hval hreach
  obtain ⟨v0, vs0, d0, ds0, pp0, qq0, hargs, rfl, rfl, h0, rr0⟩ := trodAll_cons hA
  obtain ⟨v1, vs1, d1, ds1, pp1, qq1, rfl, rfl, rfl, h1, rr1⟩ := trodAll_cons rr0
  obtain ⟨rfl, rfl, rfl⟩ := trodAll_nil rr1
  obtain rfl : args = #[v0, v1] := by cases args; simp_all
  obtain ⟨rfl, rfl⟩ := trodVars_none hV
  obtain ⟨b0, len0, cap0, rfl⟩ := okWide_slice Try.underlying22 (hval 0 22 v0 rfl rfl)
  obtain ⟨l0, hlen0, hm0, hc0, ok0, hri0⟩ := bytes_inP h0
  subst hlen0
  obtain ⟨b1, len1, cap1, rfl⟩ := okWide_slice Try.underlying28 (hval 1 28 v1 rfl rfl)
  have hin1 := ints_in2 h1 (fun el sp e => by subst e; exact sized_slice hreach (j := 1) rfl rfl Try.underlying28)
  obtain ⟨ns1, hlen1, hm1, hc1, hri1⟩ := hin1
  subst hlen1
  clear hA0
  refine (walk b0 cap0 l0 hm0 hc0 ok0 b1 cap1 ns1 hm1 hc1 W hri0 hri1).mono fun e W' ⟨he, hb⟩ => ?_
  subst he
  exact ⟨_, rfl, post_law laidOut (by kernel_rfl) (by kernel_rfl) rfl hW' rfl hb⟩

set_option maxRecDepth 100000 in
theorem laid_met (os : Os) : laidMet Try.prog Rows.parserChunksRow.laid ((laidWorld os).forCall (fun _ _ => 0) ⟨#[], #[Value.slice none 0 0, Value.slice none 0 0], []⟩).memory :=
  laidMet_of_run' 8 (by kernel_rfl) (by kernel_rfl)
set_option maxRecDepth 100000 in
theorem reads (os : Os) {H : Type} (enc : TypeId × Value → H) : ∃ places, DataW.whole enc Try.prog ((laidWorld os).forCall (fun _ _ => 0) ⟨#[], #[Value.slice none 0 0, Value.slice none 0 0], []⟩).memory Try.f4.params.toList Rows.parserChunksSpec.vars false (#[Value.slice none 0 0, Value.slice none 0 0] : Array Value).toList 8 = some ([.nil, .nil], [], places) :=
  ⟨[], by kernel_rfl⟩

set_option maxRecDepth 100000 in
theorem lifted (os : Os) (started : os.Started) (H : Type) (enc : TypeId × Value → H) (F : Stop.Interp) :
    ReturnsInHanded {} Try.checked os 4 .any ((OpenSpec.ofChange Rows.parserChunksSpec).preRow enc Try.prog Try.f4 Rows.parserChunksRow.domain false Rows.parserChunksRow.laid) (((OpenSpec.ofChange Rows.parserChunksSpec).at F).post enc Try.prog Try.f4 false true false false) := by
  obtain ⟨places, hx⟩ := reads os enc
  refine returnsInHanded_of_row (C := Try.checked) (s := OpenSpec.ofChange Rows.parserChunksSpec) own started (by kernel_rfl) Try.func4
    (witness_row_at (enc := enc) (C := Try.checked) false (laidWorld os) #[Value.slice none 0 0, Value.slice none 0 0] rfl (by kernel_rfl) (by kernel_rfl) (by kernel_rfl)
      (OpenSpec.preRow_of_cond 8 hx (by kernel_rfl) (fun k hk => by cases hk) (by kernel_rfl) (laid_met os))) ?_
  intro W base args ds gs before hval hW _ _ hreach hL _ _
  exact contract H enc W base args ds gs before hval hW hL hreach

theorem said : Rows.ParserChunksSaid :=
  OpenClaim.holds_of_cond 4 Try.f4 rfl rfl rfl rfl rfl rfl rfl ⟨rfl, rfl, rfl, rfl, rfl⟩ rfl rfl rfl rfl rfl (by kernel_rfl) Try.func4 (by kernel_rfl)
    (of_decide_eq_true (by kernel_rfl)) (by unfold Func.isWrapper; first | (rw [if_pos (by decide +kernel)]; kernel_rfl) | (rw [if_neg (by decide +kernel)]; exact ⟨rfl, rfl⟩))
    (fun os started H enc _ F => by rw [OpenClaim.pre_eq_preRow]; exact lifted os started H enc F)

#print axioms said
end Go.Proofs.Ytdmiihmaijbkfaa.parserChunks

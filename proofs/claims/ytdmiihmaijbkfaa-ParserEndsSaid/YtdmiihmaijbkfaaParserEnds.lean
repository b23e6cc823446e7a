/-
  ParserEnds holds, whatever the input.
-/
import Derived.Test.YtdmiihmaijbkfaaFrame0
import Derived.Test.YtdmiihmaijbkfaaPrfS
import Derived.Test.YtdmiihmaijbkfaaFramePn
namespace Go.Proofs.Ytdmiihmaijbkfaa.parserEnds
open Go.ChangeShapes Go.WideShapes Go.ChangeAt Go.RowKit
open Go.ChangeMaps (open_string)

theorem rest_far {w : World} {A : Option Addr} {l : List Nat} (h : RByt w A l) {n cap : Nat} (hn : n ≤ l.length) (hc : l.length ≤ cap) : ∃ A' c', (∀ W, (Instr.slice 22 (.slice A l.length cap) (some (.int .i64 (n : Int))) none none).run Try.prog W = .ok (.slice A' (l.drop n).length c') W) ∧ (∀ W, RByt W A l → RByt W A' (l.drop n)) ∧ (∀ ad', 0 < (l.drop n).length → A' = some ad' → ∃ ad, A = some ad ∧ ad'.block = ad.block) := by
  obtain ⟨A', c', h1, h2, h3, _⟩ := h.sub (a := n) (b := l.length) (cap := cap) hn (Nat.le_refl _) hc
  rw [List.take_length] at h1 h2 h3
  refine ⟨A', c', fun W => ?_, fun W hW => ?_, fun ad h0 e => h3 ad e h0⟩
  · rw [run_slice_l W _ A l.length cap Try.underlying22 .i64 (n : Int) (by omega) (by omega), ← h1]
    exact size_is A cap n l.length
  · obtain ⟨A2, c2, q1, q2, _⟩ := hW.sub (a := n) (b := l.length) (cap := cap) hn (Nat.le_refl _) hc
    rw [List.take_length] at q1 q2
    rw [h1] at q1
    injection q1 with q1
    rw [q1]
    exact q2
set_option maxRecDepth 100000 in
set_option maxHeartbeats 16000000 in
theorem walk (A : Option Addr) (cap : Nat) (ns : List Nat) (_hm : ns.length ≤ maxLen) (hcap : ns.length ≤ cap) (hn : ∀ x ∈ ns, x < 256) (at' : Int) (w : World) (hri : RByt w A ns) :
    Calls Try.prog 5 #[.slice A ns.length cap, .int .i64 at'] w fun e w' => e = .returned (.bool true) ∧ Below w.heap.size w w' := by
  have HAw := Lib.hid (prsAwake_any w)
  have HSh := Lib.hid (fun W => short_any A cap ns 400 (by decide) hcap W)
  have HMl : Hid ((ns.take 400).length ≤ 400) := Lib.hid (by simp; omega)
  have HMb : Hid (∀ x ∈ ns.take 400, x < 256) := Lib.hid (fun x hx => hn x (List.mem_of_mem_take hx))
  have HR := Lib.hid (hri.takeP 400)
  clear hri hn hcap
  generalize ns.take 400 = ms at *
  have hmL : ms.length ≤ 400 := HMl.out
  obtain ⟨i0, hi0, hi1, hi2, hi3⟩ := info_tk
  have HI := Lib.hid (And.intro hi0 (And.intro hi1 (And.intro hi2 hi3)))
  clear hi0 hi1 hi2 hi3
  go_enter Try.func5, Try.ntmps5
  go_wp2_with fail
  refine HAw.out.mono ?_
  rintro e w1 ⟨rfl, hb⟩
  have HB1 := Lib.hid hb
  clear hb HAw
  go_wp2_with fail
  refine (HSh.out _).mono ?_
  rintro e w2 ⟨c2, rfl, rfl, hc2⟩
  clear HSh
  have HR2 := Lib.hid (HR.out.next HB1.out)
  clear HR
  by_cases h : at' < 0
  · have g1 : (at' < 0) = True := eq_true h
    go_wp2_with fail
    go_ret
    exact ⟨rfl, HB1.out⟩
  have g1 : (at' < 0) = False := eq_false h
  by_cases h2 : (ms.length : Int) < at'
  · have g2 : ((ms.length : Int) < at') = True := eq_true h2
    go_wp2_with fail
    go_ret
    exact ⟨rfl, HB1.out⟩
  obtain ⟨a, ha⟩ : ∃ a : Nat, at' = (a : Int) := ⟨at'.toNat, by omega⟩
  subst ha
  have g2 : ((ms.length : Int) < (a : Int)) = False := eq_false h2
  have g3 : (ms.length < a) = False := eq_false (by omega)
  have hnL : a ≤ ms.length := by omega
  --#0
  go_upto_region 6 with fail
  clear g1 g2 g3 h h2
  go_upto_region 7 with (refine wpList_alloc_ps rfl rfl ?_)
  have hal3 : Below w2.heap.size w2 (w2.alloc (.cells ps0.cells.toArray 38)) := (Below.refl _ _).alloc (Nat.le_refl _) _
  have HB23 := Lib.hid hal3
  have HP3 := Lib.hid (ps_new w2)
  have HR3 := Lib.hid (HR2.out.next hal3)
  have HFar : Hid (∀ ad, 0 < ms.length → A = some ad → ad.block ≠ w2.heap.size) := Lib.hid (far_new HR2.out (Nat.le_refl _))
  have HFlt : Hid (∀ ad, 0 < ms.length → A = some ad → ad.block < w2.heap.size) := Lib.hid (rbyt_blk HR2.out)
  have HZ3 : Hid (w2.heap.size < (w2.alloc (.cells ps0.cells.toArray 38)).heap.size) := Lib.hid (by simp)
  clear hal3
  generalize w2.alloc (.cells ps0.cells.toArray 38) = w3 at *
  have n2 : ((a : Int) ≤ (c2 : Int)) = True := eq_true (by omega)
  have n0 : (0 : Int) ≤ (a : Int) := by omega
  obtain ⟨A9, c9, hs9, hr9, hf9⟩ := rest_far HR3.out (n := a) (cap := c2) hnL hc2
  have HS9 := Lib.hid hs9; have HR9 := Lib.hid hr9
  have HFa9 : Hid (∀ ad, 0 < (ms.drop a).length → A9 = some ad → ad.block < w2.heap.size) := Lib.hid (fun ad h0 e => by
    obtain ⟨ad0, e0, e1⟩ := hf9 ad h0 e
    rw [e1]
    exact HFlt.out ad0 (by rw [List.length_drop] at h0; omega) e0)
  clear hs9 hr9 hf9
  have HApp := Lib.hid (feedL_append ps0 (ms.take a) (ms.drop a))
  rw [List.take_append_drop] at HApp
  have HZs := Lib.hid (Z_feed (ms.take a))
  obtain ⟨ps, hps⟩ : ∃ ps, ps = ms.take a := ⟨_, rfl⟩
  have hpl : ps.length = a := by rw [hps, List.length_take]; omega
  have HPb : Hid (∀ x ∈ ps, x < 256) := Lib.hid (fun x hx => by rw [hps] at hx; exact HMb.out x (List.mem_of_mem_take hx))
  have HPr : Hid (∀ W, RByt W A ms → RByt W A ps) := Lib.hid (fun W h => by rw [hps]; exact h.takeP a)
  rw [← hps] at HApp HZs
  have HDb : Hid (∀ x ∈ ms.drop a, x < 256) := Lib.hid (fun x hx => HMb.out x (List.mem_of_mem_drop hx))
  have HDl : Hid ((ms.drop a).length ≤ 400) := Lib.hid (by rw [List.length_drop]; omega)
  have HFe1 := Lib.hid (feed_any w2.heap.size ps0 R0 A c2 ps HPb.out (by omega) (fun ad h0 e => HFar.out ad (by omega) e) w3 HP3.out (HPr.out _ HR3.out))
  have HSz := Lib.hid (szs_feed ps HPb.out)
  have HSzA := Lib.hid (szs_feed ms HMb.out)
  have HFf := Lib.hid (feedL_facts ps0 R0 ps)
  have HSp := Lib.hid (fun W h => refSplitF_any A c2 ps HPb.out (by omega) W h)
  have HSpA := Lib.hid (fun W h => refSplitO_any A c2 ms HMb.out (by omega) W h)
  have HPl : Hid (ps.length ≤ 400) := Lib.hid (by omega)
  rw [hpl] at HFe1 HSp
  clear hps hpl
  generalize feedL ps0 ps = r1 at *
  obtain ⟨s1, ts⟩ := r1
  dsimp only at *
  have HFf2 := Lib.hid (feedL_facts s1 HFf.out.1 (ms.drop a))
  have HFeQ := Lib.hid (fun (gq : Nat) (hq : w2.heap.size ≤ gq) W (hp : PsB W gq s1) (h : RByt W A9 (ms.drop a)) => feed_any gq s1 HFf.out.1 A9 c9 (ms.drop a) HDb.out (by have := HDl.out; omega) (fun ad h0 e => by have := HFa9.out ad h0 e; omega) W hp h)
  generalize feedL s1 (ms.drop a) = r2 at *
  obtain ⟨s2, ts2⟩ := r2
  dsimp only at *
  rw [HApp.out] at HSzA HSpA
  dsimp only at HSzA HSpA
  obtain ⟨U, hU⟩ : ∃ U, U = ts ++ ts2 := ⟨_, rfl⟩
  rw [← hU] at HSzA HSpA
  have HU := Lib.hid hU
  clear hU
  generalize (ms.drop a).length = ln at *
  --#1
  go_wp2_with fail
  refine HFe1.out.mono ?_
  rintro e w4 ⟨v1, rfl, hw4⟩
  have HW4 := Lib.hid hw4
  have HR4 := Lib.hid (rbyt_grown' HR3.out hw4.gro HFar.out)
  have HSpl := Lib.hid (HSp.out w4 (HPr.out _ HR4.out))
  clear hw4 HFe1 HSp
  --#2
  go_wp2_with fail
  refine HSpl.out.mono ?_
  rintro e w5 ⟨⟨A5, c5, rfl, hr5⟩, hb5⟩
  have HW5 := Lib.hid (HW4.out.more hb5)
  have HR5 := Lib.hid (HR4.out.next hb5)
  obtain ⟨A8, c8, rfl, hr8⟩ := HW5.out.tok.reads
  have HAre := Lib.hid (are_any A8 c8 ts A5 c5 ts (by have := HFf.out.2; have := HPl.out; omega) HSz.out HSz.out w5 hr8 hr5)
  clear hr5 hb5 hr8 HSpl HW4 HR4
  --#3
  go_wp2_with fail
  refine HAre.out.mono ?_
  rintro e w6 ⟨⟨b, rfl, hbq⟩, hb6⟩
  obtain rfl : b = true := hbq.2 (areP_self ts)
  have HW6 := Lib.hid (HW5.out.more hb6)
  have HR6 := Lib.hid (HR5.out.next hb6)
  clear hb6 hbq HAre HW5 HR5
  have HI6 := Lib.hid (idle_any w2.heap.size s1 w6 HW6.out.prs)
  have hzz : (∃ z : Bool, (s1.pl == 0) = z) := ⟨_, rfl⟩
  obtain ⟨z, hz⟩ := hzz
  have HZz := Lib.hid hz
  rw [hz] at HI6 ⊢
  clear hz
  have HSame : Hid (∀ (gz : Nat) W, PsB W w2.heap.size s1 → PsB W gz ps0 → Calls Try.prog 19 #[.pointer (some ⟨w2.heap.size, 0, none⟩), .pointer (some ⟨gz, 0, none⟩)] W fun e w' => e = .returned (.bool z) ∧ Below W.heap.size W w') := Lib.hid (fun gz W h1 h2 => by
    rcases z with _ | _
    · exact sameN_any _ _ s1 ps0 (by have := HZz.out; show s1.pl ≠ 0; simpa using this) W h1 h2
    · have e : s1 = ps0 := HZs.out (by have := HZz.out; simpa using this)
      rw [e] at h1
      exact sameP_any _ _ ps0 W h1 h2)
  have HCl := Lib.hid (cloneP_any w2.heap.size s1 w6 HW6.out.prs)
  cases z
  all_goals
    --#4
    go_wp2_with fail
    refine HI6.out.mono ?_
    rintro e w6 ⟨rfl, rfl⟩
    go_wp2_with fail
    refine HCl.out.mono ?_
    rintro e w7 ⟨rfl, hq7, hb7⟩
    --#5
    have hgq : w2.heap.size < w6.heap.size := by have := HW6.out.gro.size; have := HZ3.out; omega
    have hal8 : Below w7.heap.size w7 (w7.alloc (.cells ps0.cells.toArray 38)) := (Below.refl _ _).alloc (Nat.le_refl _) _
    have HW8 := Lib.hid ((HW6.out.more hb7).more hal8)
    have HQ8 := Lib.hid (hq7.next hal8)
    have HZ8 := Lib.hid (ps_new w7)
    have hgz : w6.heap.size < w7.heap.size := hq7.lt
    have HR8 := Lib.hid ((HR6.out.next hb7).next hal8)
    have HB8 := Lib.hid (show Below w.heap.size w (w7.alloc (.cells ps0.cells.toArray 38)) from HB1.out.trans ((below_of_grown HB23.out HW8.out.gro (Nat.le_refl _) HB23.out.size).mono HB1.out.size))
    have hww : w.heap.size ≤ w2.heap.size := HB1.out.size
    clear hq7 hb7 hal8 HW6 HR6 HI6 HCl
    go_upto_region 13 with (refine wpList_alloc_ps rfl rfl ?_)
    generalize w7.alloc (.cells ps0.cells.toArray 38) = w8 at *
    generalize w7.heap.size = gz at *
    generalize w6.heap.size = gq at *
    generalize w2.heap.size = g at *
    have HS8 := Lib.hid (sameP_any gq g s1 w8 HQ8.out HW8.out.prs)
    --#6
    go_wp2_with fail
    refine HS8.out.mono ?_
    rintro e w9 ⟨rfl, hb9⟩
    have HW9 := Lib.hid (HW8.out.more hb9)
    have HQ9 := Lib.hid (HQ8.out.next hb9)
    have HZ9 := Lib.hid (HZ8.out.next hb9)
    have HR9b := Lib.hid (HR8.out.next hb9)
    have HB9 := Lib.hid (HB8.out.trans (hb9.mono HB8.out.size))
    have HI9 := Lib.hid (idle_any g s1 w9 HW9.out.prs)
    rw [HZz.out] at HI9
    have HS9b := Lib.hid (HSame.out gz w9 HW9.out.prs HZ9.out)
    clear hb9 HS8 HW8 HQ8 HZ8 HR8 HB8 HSame
    --#7
    go_wp2_with fail
    refine HI9.out.mono ?_
    rintro e w9 ⟨rfl, rfl⟩
    go_wp2_with fail
    refine HS9b.out.mono ?_
    rintro e w10 ⟨rfl, hb10⟩
    have HW10 := Lib.hid (HW9.out.more hb10)
    have HQ10 := Lib.hid (HQ9.out.next hb10)
    have HZ10 := Lib.hid (HZ9.out.next hb10)
    have HR10 := Lib.hid (HR9b.out.next hb10)
    have HB10 := Lib.hid (HB9.out.trans (hb10.mono HB9.out.size))
    clear hb10 HS9b HI9 HW9 HQ9 HZ9 HR9b HB9
    have HF10 := Lib.hid (HFeQ.out gq (by omega) w10 HQ10.out (HR9.out w10 HR10.out))
    have hsl10 := HS9.out w10
    --#8
    go_wp2_with fail
    refine HF10.out.mono ?_
    rintro e w11 ⟨v2, rfl, hw11⟩
    have hg11 := hw11.gro
    have HP11 := Lib.hid (HW10.out.prs.other hg11 (by omega))
    have HQ11 := Lib.hid (show PsB w11 gq s2 from hw11.prs)
    have HZ11 := Lib.hid (HZ10.out.other hg11 (by omega))
    have HR11 := Lib.hid (rbyt_grown' HR10.out hg11 (fun ad h0 e => by have := HFlt.out ad h0 e; omega))
    have HT11 := Lib.hid (HW10.out.tok.box HQ10.out.blk hg11)
    have HB11 := Lib.hid (below_gb HB10.out hg11 (by omega) HB10.out.size)
    have HM11 := Lib.hid hw11.tok
    obtain ⟨A11, c11, rfl, hr11⟩ := hw11.tok.reads
    have hbs : w3.heap.size ≤ w10.heap.size := HW10.out.gro.size
    have hown10 : ∀ j, (Value.slice A8 ts.length c8).ownBlock = some j → w3.heap.size ≤ j ∧ j < w10.heap.size := fun j hj => by
      obtain ⟨xs, h1, _⟩ := HW10.out.tok
      exact World.ownsRow.lt h1 j hj
    have HOw10 := Lib.hid hown10
    have hg311 : w10.heap.size ≤ w11.heap.size := hg11.size
    clear hw11 hr11 hg11 HF10 hsl10 HQ10 HZ10 HR10 HB10 hown10
    have HSA := Lib.hid (HSpA.out w11 HR11.out)
    --#9
    go_wp2_with fail
    refine HSA.out.mono ?_
    rintro e w12 ⟨⟨A12, c12, rfl, ho12⟩, hb12⟩
    have HP12 := Lib.hid (HP11.out.next hb12)
    have HQ12 := Lib.hid (HQ11.out.next hb12)
    have HZ12 := Lib.hid (HZ11.out.next hb12)
    have HR12 := Lib.hid (HR11.out.next hb12)
    have HB12 := Lib.hid (HB11.out.trans (hb12.mono HB11.out.size))
    have HO12 := Lib.hid ho12
    obtain ⟨xs, hx1, hx2⟩ := HT11.out.keep (row := none) (grown_below hb12) (fun k hk => by cases hk)
    obtain ⟨ys, hy1, hy2⟩ := HM11.out.keep (row := none) (grown_below hb12) (fun k hk => by cases hk)
    have HX1 := Lib.hid hx1; have HX2 := Lib.hid hx2; have HY1 := Lib.hid hy1; have HY2 := Lib.hid hy2
    have HM12 := Lib.hid (HM11.out.keep (row := none) (grown_below hb12) (fun k hk => by cases hk))
    have HRd := Lib.hid (Reads.of_own hy1)
    have HOn := Lib.hid (rt_one (RTl.of_own hy2))
    have hlen := HFf2.out.2
    have HMx : Hid (ts.length + ts2.length ≤ maxLen) := Lib.hid (by have := HFf.out.2; have := HPl.out; have := HDl.out; unfold maxLen; omega)
    have HBy : Hid ((ts.length + ts2.length) * i0.bytes ≤ 140737488355328) := Lib.hid (Nat.le_trans (Nat.mul_le_mul (show ts.length + ts2.length ≤ 10000 by have := HFf.out.2; have := HPl.out; have := HDl.out; omega) HI.out.2.2.2) (by decide))
    have HBz : Hid (w3.heap.size ≤ w12.heap.size) := Lib.hid (by have := hb12.size; omega)
    clear ho12 hb12 hx1 hx2 hy1 hy2 HSA HP11 HQ11 HZ11 HR11 HB11 HT11 HM11 HW10
    --#10
    go_wp2_with (at_builtin; refine wpList_append_any _ rfl _ _ 39 rfl w3.heap.size 30 i0 _ 6 i0.bytes Try.underlying39 HI.out.1 HI.out.2.1 HI.out.2.2.1 rfl rfl (by decide) _ ts.length _ rfl HX1.out _ A11 ts2.length c11 _ rfl HRd.out HOn.out HMx.out HBy.out HBz.out ?_; intro v13 w13 hown13 hg13 _)
    --#11
    have HT13 : Hid (OTks w13 w3.heap.size v13 U) := Lib.hid ⟨xs ++ ys, by rw [HU.out, List.length_append, List.flatMap_append]; exact hown13, by rw [HU.out]; exact OTl.app (HX2.out.keepR HX1.out hg13) ((HY2.out.more hbs).keepR HX1.out hg13)⟩
    have HP13 := Lib.hid (HP12.out.list HX1.out (by decide) hg13)
    have HQ13 := Lib.hid (HQ12.out.list HX1.out (by decide) hg13)
    have HZ13 := Lib.hid (HZ12.out.list HX1.out (by decide) hg13)
    have HR13 := Lib.hid (rbyt_row HR12.out hg13 (fun ad h0 e e2 => by have := HFlt.out ad h0 e; have := (HOw10.out _ e2).1; have := HZ3.out; omega))
    have HO13 := Lib.hid (HO12.out.keep hg13 (fun k hk => by have := (HOw10.out _ hk).2; omega))
    have HM13 := Lib.hid (HM12.out.keep hg13 (fun k hk => (HOw10.out _ hk).2))
    have HB13 := Lib.hid (below_row HB12.out hg13 (fun k hk => by have := (HOw10.out _ hk).1; have := HZ3.out; omega) HB12.out.size)
    obtain ⟨A13, c13, rfl, hr13⟩ := HT13.out.reads
    obtain ⟨A12', c12', e12, hr12⟩ := HO13.out.reads
    cases e12
    have hUl : U.length = ts.length + ts2.length := by rw [HU.out, List.length_append]
    have HAr := Lib.hid (are_any A13 c13 U A12 c12 U (by have := HFf.out.2; have := HPl.out; have := HDl.out; omega) HSzA.out HSzA.out w13 hr13 hr12)
    clear hown13 hg13 hr13 hr12 HX1 HX2 HY1 HY2 HRd HOn HBz HP12 HQ12 HZ12 HR12 HO12 HM12 HB12 hUl HOw10
    --#12
    refine HAr.out.mono ?_
    rintro e w14 ⟨⟨b, rfl, hbq⟩, hb14⟩
    obtain rfl : b = true := hbq.2 (areP_self U)
    have HP14 := Lib.hid (HP13.out.next hb14)
    have HQ14 := Lib.hid (HQ13.out.next hb14)
    have HZ14 := Lib.hid (HZ13.out.next hb14)
    have HR14 := Lib.hid (HR13.out.next hb14)
    have HM14 := Lib.hid (HM13.out.keep (row := none) (grown_below hb14) (fun k hk => by cases hk))
    have HB14 := Lib.hid (HB13.out.trans (hb14.mono HB13.out.size))
    clear hb14 hbq HAr HP13 HQ13 HZ13 HR13 HM13 HB13 HO13 HT13
    have HF14 := Lib.hid (HFeQ.out g (Nat.le_refl _) w14 HP14.out (HR9.out w14 HR14.out))
    have hsl14 := HS9.out w14
    --#13
    go_wp2_with fail
    refine HF14.out.mono ?_
    rintro e w15 ⟨v3, rfl, hw15⟩
    have HP15 := Lib.hid (show PsB w15 g s2 from hw15.prs)
    have HQ15 := Lib.hid (HQ14.out.other hw15.gro (by omega))
    have HZ15 := Lib.hid (HZ14.out.other hw15.gro (by omega))
    have HB15 := Lib.hid (below_gb HB14.out hw15.gro hww HB14.out.size)
    have hm15 := HM14.out.keep hw15.gro (fun k hk => by cases hk; have := HZ3.out; omega)
    obtain ⟨Am, cm, em, hrm⟩ := hm15.reads
    cases em
    obtain ⟨A15, c15, rfl, hr15⟩ := hw15.tok.reads
    have HRv := Lib.hid hr15
    have HAl := Lib.hid (all_any A11 c11 ts2 (by have := HDl.out; omega) w15 hrm)
    clear hw15 hm15 hr15 hrm HF14 hsl14 HP14 HQ14 HZ14 HR14 HM14 HB14
    --#14
    go_wp2_with fail
    refine HAl.out.mono ?_
    rintro e w16 ⟨⟨A16, c16, rfl, hr16⟩, hb16⟩
    have HP16 := Lib.hid (HP15.out.next hb16)
    have HQ16 := Lib.hid (HQ15.out.next hb16)
    have HZ16 := Lib.hid (HZ15.out.next hb16)
    have HB16 := Lib.hid (HB15.out.trans (hb16.mono HB15.out.size))
    have HSz2 : Hid (∀ t ∈ ts2, t.szs) := Lib.hid (fun t ht => HSzA.out t (by rw [HU.out]; exact List.mem_append_right _ ht))
    have HAr := Lib.hid (are_any A15 c15 ts2 A16 c16 ts2 (by have := HDl.out; omega) HSz2.out HSz2.out w16 (HRv.out.next hb16) hr16)
    clear hr16 hb16 HAl HP15 HQ15 HZ15 HB15 HRv
    --#15
    go_wp2_with fail
    refine HAr.out.mono ?_
    rintro e w17 ⟨⟨b, rfl, hbq⟩, hb17⟩
    obtain rfl : b = true := hbq.2 (areP_self ts2)
    have HP17 := Lib.hid (HP16.out.next hb17)
    have HQ17 := Lib.hid (HQ16.out.next hb17)
    have HZ17 := Lib.hid (HZ16.out.next hb17)
    have HB17 := Lib.hid (HB16.out.trans (hb17.mono HB16.out.size))
    clear hb17 hbq HAr HP16 HQ16 HZ16 HB16
    have HSm := Lib.hid (sameP_any g gq s2 w17 HP17.out HQ17.out)
    --#16
    go_wp2_with fail
    refine HSm.out.mono ?_
    rintro e w18 ⟨rfl, hb18⟩
    have HP18 := Lib.hid (HP17.out.next hb18)
    have HZ18 := Lib.hid (HZ17.out.next hb18)
    have HB18 := Lib.hid (HB17.out.trans (hb18.mono HB17.out.size))
    clear hb18 HSm HP17 HQ17 HZ17 HB17
    have HRe := Lib.hid (reset_any g s2 w18 HP18.out)
    --#17
    go_wp2_with fail
    refine HRe.out.mono ?_
    rintro e w19 ⟨rfl, hp19, hg19⟩
    have HP19 := Lib.hid hp19
    have HZ19 := Lib.hid (HZ18.out.other hg19 (by omega))
    have HB19 := Lib.hid (below_gb HB18.out hg19 hww HB18.out.size)
    clear hp19 hg19 HRe HP18 HZ18 HB18
    have HI19 := Lib.hid (idle_any g ps0 w19 HP19.out)
    rw [show (ps0.pl == 0) = true from rfl] at HI19
    have HSm := Lib.hid (sameP_any g gz ps0 w19 HP19.out HZ19.out)
    --#18
    go_wp2_with fail
    refine HI19.out.mono ?_
    rintro e w19 ⟨rfl, rfl⟩
    go_wp2_with fail
    refine HSm.out.mono ?_
    rintro e w20 ⟨rfl, hb20⟩
    have HB20 := Lib.hid (HB19.out.trans (hb20.mono HB19.out.size))
    go_wp2_with fail
    go_ret
    exact ⟨rfl, HB20.out⟩

set_option maxRecDepth 100000 in
/-- What the walk gives, for every argument and every world that holds the table. -/
theorem contract (H : Type) (enc : TypeId × Value → H) (W : World) (base : Nat) (args : Array Value) (ds gs : List (DataW H)) (before : List MemPlace)
    (hval : ∀ (j : Nat) t v, Try.f5.params[j]? = some t → args[j]? = some v → Value.okWide Try.prog W .any base t v)
    (hW : DataW.Whole enc Try.prog Try.f5.params.toList Rows.parserEndsSpec.vars false W args.toList ds gs before) (_hL : laidMetH Try.prog Rows.parserEndsRow.laid W)
    (hreach : (DataW.weightsEach Try.prog (Try.f5.params.toList ++ []) (ds ++ gs)).all (· ≤ reachBytes) = true) :
    Calls Try.prog 5 args W fun e W' => ∃ v, e = .returned v ∧ Rows.parserEndsSpec.post enc Try.prog Try.f5 false true false false W args v W' := by
  have hW' := hW
  clear _hL
  have hlts : ∀ x ∈ before, x.block < W.heap.size := fun x hx => hW'.lt x hx
  obtain ⟨p, q, hA0, hV, rfl, hfz, hnd⟩ := hW
  have hA : DataW.TrodAll enc Try.prog W 0 (fun _ => true) true Try.f5.params.toList args.toList ds p := hA0
  rw [Try.params5] at hA hval hreach
  obtain ⟨v0, vs0, d0, ds0, pp0, qq0, hargs, rfl, rfl, h0, rr0⟩ := trodAll_cons hA
  obtain ⟨v1, vs1, d1, ds1, pp1, qq1, rfl, rfl, rfl, h1, rr1⟩ := trodAll_cons rr0
  obtain ⟨rfl, rfl, rfl⟩ := trodAll_nil rr1
  obtain rfl : args = #[v0, v1] := by cases args; simp_all
  obtain ⟨rfl, rfl⟩ := trodVars_none hV
  obtain ⟨b0, len0, cap0, rfl⟩ := okWide_slice Try.underlying22 (hval 0 22 v0 rfl rfl)
  obtain ⟨l0, hlen0, hm0, hc0, ok0, hri0⟩ := bytes_inP h0
  subst hlen0
  obtain ⟨a1, rfl, rfl, rfl, w1⟩ := open_int Try.underlying3 (hval 1 3 v1 rfl rfl) h1
  clear hA0
  refine (walk b0 cap0 l0 hm0 hc0 ok0 a1 W hri0).mono fun e W' ⟨he, hb⟩ => ?_
  subst he
  exact ⟨_, rfl, post_law laidOut (by kernel_rfl) (by kernel_rfl) rfl hW' rfl hb⟩

set_option maxRecDepth 100000 in
theorem laid_met (os : Os) : laidMet Try.prog Rows.parserEndsRow.laid ((laidWorld os).forCall (fun _ _ => 0) ⟨#[], #[Value.slice none 0 0, Value.int .i64 0], []⟩).memory :=
  laidMet_of_run' 8 (by kernel_rfl) (by kernel_rfl)
set_option maxRecDepth 100000 in
theorem reads (os : Os) {H : Type} (enc : TypeId × Value → H) : ∃ places, DataW.whole enc Try.prog ((laidWorld os).forCall (fun _ _ => 0) ⟨#[], #[Value.slice none 0 0, Value.int .i64 0], []⟩).memory Try.f5.params.toList Rows.parserEndsSpec.vars false (#[Value.slice none 0 0, Value.int .i64 0] : Array Value).toList 8 = some ([.nil, .lit (.int .i64 0)], [], places) :=
  ⟨[], by kernel_rfl⟩

set_option maxRecDepth 100000 in
theorem lifted (os : Os) (started : os.Started) (H : Type) (enc : TypeId × Value → H) (F : Stop.Interp) :
    ReturnsInHanded {} Try.checked os 5 .any ((OpenSpec.ofChange Rows.parserEndsSpec).preRow enc Try.prog Try.f5 Rows.parserEndsRow.domain false Rows.parserEndsRow.laid) (((OpenSpec.ofChange Rows.parserEndsSpec).at F).post enc Try.prog Try.f5 false true false false) := by
  obtain ⟨places, hx⟩ := reads os enc
  refine returnsInHanded_of_row (C := Try.checked) (s := OpenSpec.ofChange Rows.parserEndsSpec) own started (by kernel_rfl) Try.func5
    (witness_row_at (enc := enc) (C := Try.checked) false (laidWorld os) #[Value.slice none 0 0, Value.int .i64 0] rfl (by kernel_rfl) (by kernel_rfl) (by kernel_rfl)
      (OpenSpec.preRow_of_cond 8 hx (by kernel_rfl) (fun k hk => by cases hk) (by kernel_rfl) (laid_met os))) ?_
  intro W base args ds gs before hval hW _ _ hreach hL _ _
  exact contract H enc W base args ds gs before hval hW hL hreach

theorem said : Rows.ParserEndsSaid :=
  OpenClaim.holds_of_cond 5 Try.f5 rfl rfl rfl rfl rfl rfl rfl ⟨rfl, rfl, rfl, rfl, rfl⟩ rfl rfl rfl rfl rfl (by kernel_rfl) Try.func5 (by kernel_rfl)
    (of_decide_eq_true (by kernel_rfl)) (by unfold Func.isWrapper; first | (rw [if_pos (by decide +kernel)]; kernel_rfl) | (rw [if_neg (by decide +kernel)]; exact ⟨rfl, rfl⟩))
    (fun os started H enc _ F => by rw [OpenClaim.pre_eq_preRow]; exact lifted os started H enc F)

#print axioms said
end Go.Proofs.Ytdmiihmaijbkfaa.parserEnds

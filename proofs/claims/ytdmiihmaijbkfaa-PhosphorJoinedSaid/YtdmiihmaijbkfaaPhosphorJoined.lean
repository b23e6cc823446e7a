/-
  PhosphorJoined holds, whatever the input.
-/
import Derived.Test.YtdmiihmaijbkfaaFrame0
import Derived.Test.YtdmiihmaijbkfaaPrfS
import Derived.Test.YtdmiihmaijbkfaaFramePn
namespace Go.Proofs.Ytdmiihmaijbkfaa.phosphorJoined
open Go.ChangeShapes Go.WideShapes Go.ChangeAt Go.RowKit
open Go.ChangeMaps (open_string)

theorem own_emp (w : World) : (w.alloc (.cells #[] 5)).ownsRow w.heap.size 5 1 (.slice (some ⟨w.heap.size, 0, none⟩) 0 0) 0 [] :=
  ⟨rfl, .inr ⟨w.heap.size, 0, #[], rfl, Nat.le_refl _, Blk.new w _ _, Nat.le_refl _, by decide, rfl, rfl⟩⟩
theorem feed_24 (s : Ps) : feedL s [24] = (ps0, []) := by
  have e : takeP s 24 = (ps0, tok0) := by unfold takeP; rw [if_neg (fun h => h.2 (.inl rfl))]; rfl
  rw [feedL_run]
  show runQ s [24] = _
  rw [run_cons, e]
  rfl
theorem join_idle (a b : List Nat) (h : ((feedL ps0 a).1.pl == 0) = true) : (feedL ps0 (a ++ b)).2 = (feedL ps0 a).2 ++ (feedL ps0 b).2 := by
  have h1 : (feedL ps0 a).1 = ps0 := Z_feed a (by simpa using h)
  rw [feedL_append, h1]
set_option maxRecDepth 100000 in
set_option maxHeartbeats 16000000 in
theorem walk (A : Option Addr) (cap : Nat) (xs : List Nat) (_hm : xs.length ≤ maxLen) (hcap : xs.length ≤ cap) (hn : ∀ x ∈ xs, x < 256) (B : Option Addr) (capb : Nat) (ys : List Nat) (_hmb : ys.length ≤ maxLen) (hcapb : ys.length ≤ capb) (hnb : ∀ x ∈ ys, x < 256) (w : World) (hrx : RByt w A xs) (hry : RByt w B ys) :
    Calls Try.prog 10 #[.slice A xs.length cap, .slice B ys.length capb] w fun e w' => e = .returned (.bool true) ∧ Below w.heap.size w w' := by
  clear _hm _hmb
  have HX := Lib.hid hrx; have HY := Lib.hid hry; have HN := Lib.hid hn; have HM := Lib.hid hnb
  clear hrx hry hn hnb
  obtain ⟨i1, hj0, hj1, hj2, hj3⟩ := info_u8
  have HJ := Lib.hid (And.intro hj0 (And.intro hj1 (And.intro hj2 hj3)))
  obtain ⟨i0, hi0, hi1, hi2, hi3⟩ := info_rtk
  have HI := Lib.hid (And.intro hi0 (And.intro hi1 (And.intro hi2 hi3)))
  clear hj0 hj1 hj2 hj3 hi0 hi1 hi2 hi3
  go_enter Try.func10, Try.ntmps10
  by_cases hx : 1500 < xs.length
  case' pos =>
    have e1 : ((1500 : Int) < (xs.length : Int)) = True := eq_true (by omega)
    have e2 : ((1500 : Int) ≤ (cap : Int)) = True := eq_true (by omega)
    go_upto_region 3 with fail
    have hla : (xs.take 1500).length = 1500 := by rw [List.length_take]; omega
    rw [← hla]
    have hal : (xs.take 1500).length ≤ 1500 := by omega
    have hac : (xs.take 1500).length ≤ cap := by omega
    have HRa := Lib.hid (HX.out.takeP 1500)
    have HAb : Hid (∀ x ∈ xs.take 1500, x < 256) := Lib.hid (fun x h => HN.out x (List.mem_of_mem_take h))
    clear e1 e2 hla HX HN hx hcap
    generalize xs.take 1500 = a at *
  case' neg =>
    have e1 : ((1500 : Int) < (xs.length : Int)) = False := eq_false (by omega)
    go_upto_region 3 with fail
    have hal : xs.length ≤ 1500 := by omega
    have hac := hcap
    have HRa := HX
    have HAb := HN
    clear e1 HX HN hx hcap
    generalize xs = a at *
  all_goals
    by_cases hy : 1500 < ys.length
    case' pos =>
      have e1 : ((1500 : Int) < (ys.length : Int)) = True := eq_true (by omega)
      have e2 : ((1500 : Int) ≤ (capb : Int)) = True := eq_true (by omega)
      go_upto_region 5 with fail
      have hla : (ys.take 1500).length = 1500 := by rw [List.length_take]; omega
      rw [← hla]
      have hbl : (ys.take 1500).length ≤ 1500 := by omega
      have HRb := Lib.hid (HY.out.takeP 1500)
      have HBb : Hid (∀ x ∈ ys.take 1500, x < 256) := Lib.hid (fun x h => HM.out x (List.mem_of_mem_take h))
      clear e1 e2 hla HY HM hy hcapb
      generalize ys.take 1500 = b at *
    case' neg =>
      have e1 : ((1500 : Int) < (ys.length : Int)) = False := eq_false (by omega)
      go_upto_region 5 with fail
      have hbl : ys.length ≤ 1500 := by omega
      have HRb := HY
      have HBb := HM
      clear e1 HY HM hy hcapb
      generalize ys = b at *
    all_goals
      --#0
      have HS1 := Lib.hid (refSplitO_any A cap a HAb.out (by omega) w HRa.out)
      have HS2 := Lib.hid (fun W h => refSplitO_any B capb b HBb.out (by omega) W h)
      have HFa := Lib.hid (feedL_facts ps0 R0 a); have HFb := Lib.hid (feedL_facts ps0 R0 b)
      have HAll := Lib.hid (join_idle a b)
      have HCut : Hid (feedL ps0 (a ++ [24] ++ b) = ((feedL ps0 b).1, (feedL ps0 a).2 ++ (feedL ps0 b).2)) := Lib.hid (by rw [feedL_append, feedL_append, feed_24]; simp)
      have HSza := Lib.hid (szs_feed a HAb.out); have HSzb := Lib.hid (szs_feed b HBb.out)
      have HAllL : Hid ((feedL ps0 a).2.length ≤ (feedL ps0 (a ++ b)).2.length) := Lib.hid (by rw [feedL_append]; simp)
      obtain ⟨ab, hab⟩ : ∃ ab, ab = a ++ b := ⟨_, rfl⟩
      have habl : ab.length = a.length + b.length := by rw [hab, List.length_append]
      have HAbb : Hid (∀ x ∈ ab, x < 256) := Lib.hid (fun x h => by rw [hab] at h; rcases List.mem_append.1 h with h | h; exact HAb.out x h; exact HBb.out x h)
      have HCbb : Hid (∀ x ∈ a ++ [24] ++ b, x < 256) := Lib.hid (fun x h => by
        rcases List.mem_append.1 h with h | h
        · rcases List.mem_append.1 h with h | h
          · exact HAb.out x h
          · have : x = 24 := by simpa using h
            omega
        · exact HBb.out x h)
      have HFab := Lib.hid (feedL_facts ps0 R0 ab)
      rw [← hab] at HAll HAllL
      have HUb := Lib.hid (show u8s ab = u8s a ++ u8s b by rw [hab, u8s_snoc])
      have HAbl := Lib.hid habl
      have HSp := Lib.hid (fun A' c' W h => split_any A' c' ab HAbb.out (by omega) W h)
      clear hab habl
      generalize feedL ps0 a = r1 at *
      obtain ⟨s1, ts⟩ := r1
      generalize feedL ps0 b = r2 at *
      obtain ⟨s2, us⟩ := r2
      generalize feedL ps0 ab = r3 at *
      obtain ⟨s3, vs⟩ := r3
      dsimp only at *
      obtain ⟨U, hU⟩ : ∃ U, U = ts ++ us := ⟨_, rfl⟩
      rw [← hU] at HCut HAll
      have HU := Lib.hid hU
      clear hU
      --#1
      go_wp2_with fail
      refine HS1.out.mono ?_
      rintro e w1 ⟨⟨A1, c1, rfl, ho1⟩, hb1⟩
      have HO1 := Lib.hid ho1; have HB1 := Lib.hid hb1
      have HSb := Lib.hid (HS2.out w1 (HRb.out.next hb1))
      clear ho1 hb1 HS1 HS2
      --#2
      go_wp2_with fail
      refine HSb.out.mono ?_
      rintro e w2 ⟨⟨A2, c2, rfl, ho2⟩, hb2⟩
      have HB2 := Lib.hid (HB1.out.trans (hb2.mono HB1.out.size))
      have HO1b := Lib.hid (HO1.out.next hb2)
      have HO2 := Lib.hid ho2
      have HA2 := Lib.hid (HRa.out.next HB2.out); have HBy2 := Lib.hid (HRb.out.next HB2.out)
      have hw12 : w1.heap.size ≤ w2.heap.size := hb2.size
      have hw01 : w.heap.size ≤ w1.heap.size := HB1.out.size
      have hown1 : ∀ j, (Value.slice A1 ts.length c1).ownBlock = some j → w.heap.size ≤ j ∧ j < w1.heap.size := fun j hj => by
        obtain ⟨zs, h1, _⟩ := HO1.out
        exact World.ownsRow.lt h1 j hj
      have HOw1 := Lib.hid hown1
      clear ho2 hb2 HSb HO1 hown1
      have hal3 : Below w2.heap.size w2 (w2.alloc (.cells #[] 5)) := (Below.refl _ _).alloc (Nat.le_refl _) _
      have HE3 := Lib.hid (own_emp w2)
      have HA3 := Lib.hid (show Reads (w2.alloc (.cells #[] 5)) (w2.alloc (.cells #[] 5)).heap.size 1 A a.length (u8s a) from HA2.out.next hal3); have HB3 := Lib.hid hal3
      have HBz4 : Hid (w2.heap.size ≤ (w2.alloc (.cells #[] 5)).heap.size) := Lib.hid hal3.size
      clear hal3
      --#3
      go_wp2_with (first
        | (at_builtin; refine wpList_append_any _ rfl _ _ 22 rfl w2.heap.size 5 i1 _ 1 1 Try.underlying22 HJ.out.1 HJ.out.2.1 HJ.out.2.2.1 HJ.out.2.2.2 rfl (by decide) _ 0 _ rfl HE3.out _ A a.length cap _ rfl HA3.out (u8s_one _) (by unfold maxLen; omega) (by omega) (HBz4.out) ?_; intro v4 w4 hown4 hg4 _; (try rw [Nat.zero_add, List.nil_append] at hown4); obtain ⟨A4, c4, rfl⟩ := own_formS hown4; have HO4 := Lib.hid hown4; have HB4 := Lib.hid (below_row HB3.out hg4 (own_ge HE3.out) HBz4.out); have HY4 := Lib.hid (show Reads w4 w4.heap.size 1 B b.length (u8s b) from HBy2.out.next HB4.out); have HBz5 : Hid (w2.heap.size ≤ w4.heap.size) := Lib.hid HB4.out.size; clear hown4 hg4)
        | (at_builtin; refine wpList_append_any _ rfl _ _ 22 rfl w2.heap.size 5 i1 _ 1 1 Try.underlying22 HJ.out.1 HJ.out.2.1 HJ.out.2.2.1 HJ.out.2.2.2 rfl (by decide) _ a.length _ rfl HO4.out _ B b.length capb _ rfl HY4.out (u8s_one _) (by unfold maxLen; omega) (by omega) (HBz5.out) ?_; intro v5 w5 hown5 hg5 _; (try rw [Nat.zero_add, List.nil_append] at hown5); rw [← HUb.out, ← HAbl.out] at hown5; obtain ⟨A5, c5, rfl⟩ := own_formS hown5; have HO5 := Lib.hid hown5; have HB5 := Lib.hid (below_row HB4.out hg5 (own_ge HO4.out) HBz5.out); clear hown5 hg5))
      have HSp5 := Lib.hid (HSp.out A5 c5 w5 (Reads.of_own HO5.out))
      --#4
      refine HSp5.out.mono ?_
      rintro e w6 ⟨v6, rfl, ho6, hb6⟩
      have HB6 := Lib.hid (HB5.out.trans (hb6.mono HB5.out.size))
      have HW6 := Lib.hid (HB2.out.trans (HB6.out.mono HB2.out.size))
      have HV6 := Lib.hid ho6
      obtain ⟨A6, c6, rfl, _⟩ := ho6.reads
      have HO1c := Lib.hid (HO1b.out.next HB6.out)
      have HO2c := Lib.hid (HO2.out.next HB6.out)
      have HA6 := Lib.hid (HA2.out.next HB6.out); have HBy6 := Lib.hid (HBy2.out.next HB6.out)
      have hw56 : w2.heap.size ≤ w5.heap.size := HB5.out.size
      clear ho6 hb6 HSp5 HO5 HO4 HB5 HB4 HE3 HA3 HB3 HY4 HBz4 HBz5 HO1b HO2 HA2 HBy2 HSp HUb HAbl HAbb
      have HMx : Hid (ts.length + us.length ≤ maxLen) := Lib.hid (by have := HFa.out.2; have := HFb.out.2; unfold maxLen; omega)
      have HBy : Hid ((ts.length + us.length) * i0.bytes ≤ 140737488355328) := Lib.hid (Nat.le_trans (Nat.mul_le_mul (show ts.length + us.length ≤ 1000001 by have := HFa.out.2; have := HFb.out.2; omega) HI.out.2.2.2) (by decide))
      obtain ⟨z, hz⟩ : ∃ z, (s1.pl == 0) = z := ⟨_, rfl⟩
      have HZz := Lib.hid hz
      rw [hz]
      clear hz
      cases z
      · --#5
        have hal7 : Below w6.heap.size w6 (w6.alloc (.cells #[] 5)) := (Below.refl _ _).alloc (Nat.le_refl _) _
        have HE7 := Lib.hid (own_emp w6)
        have HA7 := Lib.hid (show Reads (w6.alloc (.cells #[] 5)) (w6.alloc (.cells #[] 5)).heap.size 1 A a.length (u8s a) from HA6.out.next hal7); have HB7 := Lib.hid hal7
        have HBz8 : Hid (w6.heap.size ≤ (w6.alloc (.cells #[] 5)).heap.size) := Lib.hid hal7.size
        clear hal7
        go_upto_region 10 with fail
        --#6
        go_wp2_with (first
          | (at_builtin; refine wpList_append_any _ rfl _ _ 22 rfl w6.heap.size 5 i1 _ 1 1 Try.underlying22 HJ.out.1 HJ.out.2.1 HJ.out.2.2.1 HJ.out.2.2.2 rfl (by decide) _ 0 _ rfl HE7.out _ A a.length cap _ rfl HA7.out (u8s_one _) (by unfold maxLen; omega) (by omega) (HBz8.out) ?_; intro v8 w8 hown8 hg8 _; (try rw [Nat.zero_add, List.nil_append] at hown8); obtain ⟨A8, c8, rfl⟩ := own_formS hown8; have HO8 := Lib.hid hown8; have HB8 := Lib.hid (below_row HB7.out hg8 (own_ge HE7.out) HBz8.out); have HAl9 := Lib.hid (show Below w8.heap.size w8 (w8.alloc (.cells #[.int .u8 24] 5)) from (Below.refl _ _).alloc (Nat.le_refl _) _); have HO9 := Lib.hid (own_more HO8.out HAl9.out); have HB9 := Lib.hid (HB8.out.trans (HAl9.out.mono HB8.out.size)); have HRd9 := Lib.hid (row_reads w8 5 (u8s [24]) 1 1 rfl); have HBz10 : Hid (w6.heap.size ≤ (w8.alloc (.cells #[.int .u8 24] 5)).heap.size) := Lib.hid HB9.out.size; clear hown8 hg8)
          | (at_builtin; refine wpList_append_any _ rfl _ _ 22 rfl w6.heap.size 5 i1 _ 1 1 Try.underlying22 HJ.out.1 HJ.out.2.1 HJ.out.2.2.1 HJ.out.2.2.2 rfl (by decide) _ a.length _ rfl HO9.out _ (some ⟨w8.heap.size, 0, none⟩) 1 1 _ rfl HRd9.out (u8s_one _) (by unfold maxLen; omega) (by omega) (HBz10.out) ?_; intro v10 w10 hown10 hg10 _; (try rw [Nat.zero_add, List.nil_append] at hown10); obtain ⟨A10, c10, rfl⟩ := own_formS hown10; have HO10 := Lib.hid hown10; have HB10 := Lib.hid (below_row HB9.out hg10 (own_ge HO9.out) HBz10.out); have HY10 := Lib.hid (show Reads w10 w10.heap.size 1 B b.length (u8s b) from HBy6.out.next HB10.out); have HBz11 : Hid (w6.heap.size ≤ w10.heap.size) := Lib.hid HB10.out.size; clear hown10 hg10)
          | (at_builtin; refine wpList_append_any _ rfl _ _ 22 rfl w6.heap.size 5 i1 _ 1 1 Try.underlying22 HJ.out.1 HJ.out.2.1 HJ.out.2.2.1 HJ.out.2.2.2 rfl (by decide) _ (a.length + 1) _ rfl HO10.out _ B b.length capb _ rfl HY10.out (u8s_one _) (by unfold maxLen; omega) (by omega) (HBz11.out) ?_; intro v11 w11 hown11 hg11 _; (try rw [Nat.zero_add, List.nil_append] at hown11); have HO11 := Lib.hid hown11; have HB11 := Lib.hid (below_row HB10.out hg11 (own_ge HO10.out) HBz11.out); clear hown11 hg11))
        --#7
        have hcl : (a ++ [24] ++ b).length = a.length + 1 + b.length := by simp; omega
        have ho11 := HO11.out
        rw [← hcl, ← u8s_snoc, ← u8s_snoc] at ho11
        obtain ⟨A11, c11, e11⟩ := own_formS ho11
        subst e11
        have HSp11 := Lib.hid (split_any A11 c11 (a ++ [24] ++ b) HCbb.out (by omega) w11 (Reads.of_own ho11))
        rw [HCut.out] at HSp11
        dsimp only at HSp11
        clear ho11 hcl
        refine HSp11.out.mono ?_
        rintro e w12 ⟨v12, rfl, ho12, hb12⟩
        have HB12 := Lib.hid (HB11.out.trans (hb12.mono HB11.out.size))
        obtain ⟨A12, c12, rfl, _⟩ := ho12.reads
        have HV12 := Lib.hid ho12
        obtain ⟨p1, hp1, hp2⟩ := HO1c.out.next HB12.out
        obtain ⟨p2, hq1, hq2⟩ := HO2c.out.next HB12.out
        have HP1 := Lib.hid hp1; have HP2 := Lib.hid hp2; have HQ1 := Lib.hid hq1; have HQ2 := Lib.hid hq2
        have HRq := Lib.hid (Reads.of_own hq1)
        have HOn := Lib.hid (rt_one (RTl.of_own hq2))
        have HBw := Lib.hid (show Below w.heap.size w w12 from HW6.out.trans (HB12.out.mono HW6.out.size))
        have HBz : Hid (w.heap.size ≤ w12.heap.size) := Lib.hid HBw.out.size
        have hw116 : w6.heap.size ≤ w11.heap.size := HB11.out.size
        have hw26 : w2.heap.size ≤ w6.heap.size := HB6.out.size
        clear ho12 hb12 hp1 hp2 hq1 hq2 HSp11 HO8 HB8 HAl9 HO9 HB9 HRd9 HBz10 HO10 HB10 HY10 HBz11 HO11 HB11 HE7 HA7 HB7 HBz8 HA6 HBy6 HO1c HO2c
        --#8
        go_wp2_with (at_builtin; refine wpList_append_any _ rfl _ _ 25 rfl w.heap.size 56 i0 _ 6 i0.bytes Try.underlying25 HI.out.1 HI.out.2.1 HI.out.2.2.1 rfl rfl (by decide) _ ts.length _ rfl HP1.out _ A2 us.length c2 _ rfl HRq.out HOn.out HMx.out HBy.out HBz.out ?_; intro v13 w13 hown13 hg13 _)
        have HT : Hid (OTr w13 w.heap.size v13 U) := Lib.hid (by rw [HU.out]; exact OTr.push HP1.out HP2.out (OTl.more hw01 HQ2.out) hown13 hg13)
        have HVv := Lib.hid (HV12.out.keep hg13 (fun k hk => by have := (HOw1.out k hk).2; omega))
        have HBw13 := Lib.hid (below_row HBw.out hg13 (fun k hk => (HOw1.out k hk).1) HBz.out)
        obtain ⟨A13, c13, rfl, hr13⟩ := HT.out.reads
        obtain ⟨A14, c14, e14, hr14⟩ := HVv.out.reads
        cases e14
        have hlu : U.length ≤ 1000000000 := by rw [HU.out, List.length_append]; have := HFa.out.2; have := HFb.out.2; omega
        have hszu : ∀ t ∈ U, t.szs := fun t h => by
          rw [HU.out] at h
          rcases List.mem_append.1 h with h | h
          · exact HSza.out t h
          · exact HSzb.out t h
        have HAr := Lib.hid (are_any A12 c12 U A13 c13 U hlu hszu hszu w13 hr14 hr13)
        clear hown13 hg13 hr13 hr14 HP1 HP2 HQ1 HQ2 HRq HOn HBw HBz hlu hszu HT HVv HV12 HV6
        --#9
        refine HAr.out.mono ?_
        rintro e w14 ⟨⟨bb, rfl, hbq⟩, hb14⟩
        obtain rfl : bb = true := hbq.2 (areP_self _)
        have HB14 := Lib.hid (HBw13.out.trans (hb14.mono HBw13.out.size))
        have hle : ((ts.length : Int) ≤ (vs.length : Int)) = True := eq_true (by have := HAllL.out; omega)
        clear hbq hb14 HAr
        --#10
        go_wp2_with fail
        go_ret
        exact ⟨rfl, HB14.out⟩
      · --#11
        have HVs := Lib.hid (HAll.out HZz.out)
        obtain ⟨p1, hp1, hp2⟩ := HO1c.out
        obtain ⟨p2, hq1, hq2⟩ := HO2c.out
        have HP1 := Lib.hid hp1; have HP2 := Lib.hid hp2; have HQ1 := Lib.hid hq1; have HQ2 := Lib.hid hq2
        have HRq := Lib.hid (Reads.of_own hq1)
        have HOn := Lib.hid (rt_one (RTl.of_own hq2))
        have HBz : Hid (w.heap.size ≤ w6.heap.size) := Lib.hid HW6.out.size
        clear hp1 hp2 hq1 hq2 HO1c HO2c HA6 HBy6
        --#14
        go_upto_region 9 with fail
        --#12
        go_wp2_with (at_builtin; refine wpList_append_any _ rfl _ _ 25 rfl w.heap.size 56 i0 _ 6 i0.bytes Try.underlying25 HI.out.1 HI.out.2.1 HI.out.2.2.1 rfl rfl (by decide) _ ts.length _ rfl HP1.out _ A2 us.length c2 _ rfl HRq.out HOn.out HMx.out HBy.out HBz.out ?_; intro v13 w13 hown13 hg13 _)
        --#15
        have HT : Hid (OTr w13 w.heap.size v13 U) := Lib.hid (by rw [HU.out]; exact OTr.push HP1.out HP2.out (OTl.more hw01 HQ2.out) hown13 hg13)
        have HVv := Lib.hid (HV6.out.keep hg13 (fun k hk => by have := (HOw1.out k hk).2; omega))
        have HBw13 := Lib.hid (below_row HW6.out hg13 (fun k hk => (HOw1.out k hk).1) HBz.out)
        obtain ⟨A13, c13, rfl, hr13⟩ := HT.out.reads
        obtain ⟨A14, c14, e14, hr14⟩ := HVv.out.reads
        cases e14
        have hlu : U.length ≤ 1000000000 := by rw [HU.out, List.length_append]; have := HFa.out.2; have := HFb.out.2; omega
        have hszu : ∀ t ∈ U, t.szs := fun t h => by
          rw [HU.out] at h
          rcases List.mem_append.1 h with h | h
          · exact HSza.out t h
          · exact HSzb.out t h
        have HAr := Lib.hid (are_any A6 c6 vs A13 c13 U (by rw [HVs.out]; exact hlu) (by rw [HVs.out]; exact hszu) hszu w13 hr14 hr13)
        clear hown13 hg13 hr13 hr14 HP1 HP2 HQ1 HQ2 HRq HOn HBz hlu hszu HT HVv HV6
        --#13
        refine HAr.out.mono ?_
        rintro e w14 ⟨⟨bb, rfl, hbq⟩, hb14⟩
        obtain rfl : bb = true := hbq.2 (by rw [HVs.out]; exact areP_self _)
        have HB14 := Lib.hid (HBw13.out.trans (hb14.mono HBw13.out.size))
        clear hbq hb14 HAr
        go_wp2_with fail
        go_ret
        exact ⟨rfl, HB14.out⟩

set_option maxRecDepth 100000 in
/-- What the walk gives, for every argument and every world that holds the table. -/
theorem contract (H : Type) (enc : TypeId × Value → H) (W : World) (base : Nat) (args : Array Value) (ds gs : List (DataW H)) (before : List MemPlace)
    (hval : ∀ (j : Nat) t v, Try.f10.params[j]? = some t → args[j]? = some v → Value.okWide Try.prog W .any base t v)
    (hW : DataW.Whole enc Try.prog Try.f10.params.toList Rows.phosphorJoinedSpec.vars false W args.toList ds gs before) (_hL : laidMetH Try.prog Rows.phosphorJoinedRow.laid W)
    (hreach : (DataW.weightsEach Try.prog (Try.f10.params.toList ++ []) (ds ++ gs)).all (· ≤ reachBytes) = true) :
    Calls Try.prog 10 args W fun e W' => ∃ v, e = .returned v ∧ Rows.phosphorJoinedSpec.post enc Try.prog Try.f10 false true false false W args v W' := by
  have hW' := hW
  clear _hL
  have hlts : ∀ x ∈ before, x.block < W.heap.size := fun x hx => hW'.lt x hx
  obtain ⟨p, q, hA0, hV, rfl, hfz, hnd⟩ := hW
  have hA : DataW.TrodAll enc Try.prog W 0 (fun _ => true) true Try.f10.params.toList args.toList ds p := hA0
  rw [Try.params10] at hA hval hreach
  obtain ⟨v0, vs0, d0, ds0, pp0, qq0, hargs, rfl, rfl, h0, rr0⟩ := trodAll_cons hA
  obtain ⟨v1, vs1, d1, ds1, pp1, qq1, rfl, rfl, rfl, h1, rr1⟩ := trodAll_cons rr0
  obtain ⟨rfl, rfl, rfl⟩ := trodAll_nil rr1
  obtain rfl : args = #[v0, v1] := by cases args; simp_all
  obtain ⟨rfl, rfl⟩ := trodVars_none hV
  obtain ⟨b0, len0, cap0, rfl⟩ := okWide_slice Try.underlying22 (hval 0 22 v0 rfl rfl)
  obtain ⟨l0, hlen0, hm0, hc0, ok0, hri0⟩ := bytes_inP h0
  subst hlen0
  obtain ⟨b1, len1, cap1, rfl⟩ := okWide_slice Try.underlying22 (hval 1 22 v1 rfl rfl)
  obtain ⟨l1, hlen1, hm1, hc1, ok1, hri1⟩ := bytes_inP h1
  subst hlen1
  clear hA0
  refine (walk b0 cap0 l0 hm0 hc0 ok0 b1 cap1 l1 hm1 hc1 ok1 W hri0 hri1).mono fun e W' ⟨he, hb⟩ => ?_
  subst he
  exact ⟨_, rfl, post_law laidOut (by kernel_rfl) (by kernel_rfl) rfl hW' rfl hb⟩

set_option maxRecDepth 100000 in
theorem laid_met (os : Os) : laidMet Try.prog Rows.phosphorJoinedRow.laid ((laidWorld os).forCall (fun _ _ => 0) ⟨#[], #[Value.slice none 0 0, Value.slice none 0 0], []⟩).memory :=
  laidMet_of_run' 8 (by kernel_rfl) (by kernel_rfl)
set_option maxRecDepth 100000 in
theorem reads (os : Os) {H : Type} (enc : TypeId × Value → H) : ∃ places, DataW.whole enc Try.prog ((laidWorld os).forCall (fun _ _ => 0) ⟨#[], #[Value.slice none 0 0, Value.slice none 0 0], []⟩).memory Try.f10.params.toList Rows.phosphorJoinedSpec.vars false (#[Value.slice none 0 0, Value.slice none 0 0] : Array Value).toList 8 = some ([.nil, .nil], [], places) :=
  ⟨[], by kernel_rfl⟩

set_option maxRecDepth 100000 in
theorem lifted (os : Os) (started : os.Started) (H : Type) (enc : TypeId × Value → H) (F : Stop.Interp) :
    ReturnsInHanded {} Try.checked os 10 .any ((OpenSpec.ofChange Rows.phosphorJoinedSpec).preRow enc Try.prog Try.f10 Rows.phosphorJoinedRow.domain false Rows.phosphorJoinedRow.laid) (((OpenSpec.ofChange Rows.phosphorJoinedSpec).at F).post enc Try.prog Try.f10 false true false false) := by
  obtain ⟨places, hx⟩ := reads os enc
  refine returnsInHanded_of_row (C := Try.checked) (s := OpenSpec.ofChange Rows.phosphorJoinedSpec) own started (by kernel_rfl) Try.func10
    (witness_row_at (enc := enc) (C := Try.checked) false (laidWorld os) #[Value.slice none 0 0, Value.slice none 0 0] rfl (by kernel_rfl) (by kernel_rfl) (by kernel_rfl)
      (OpenSpec.preRow_of_cond 8 hx (by kernel_rfl) (fun k hk => by cases hk) (by kernel_rfl) (laid_met os))) ?_
  intro W base args ds gs before hval hW _ _ hreach hL _ _
  exact contract H enc W base args ds gs before hval hW hL hreach

theorem said : Rows.PhosphorJoinedSaid :=
  OpenClaim.holds_of_cond 10 Try.f10 rfl rfl rfl rfl rfl rfl rfl ⟨rfl, rfl, rfl, rfl, rfl⟩ rfl rfl rfl rfl rfl (by kernel_rfl) Try.func10 (by kernel_rfl)
    (of_decide_eq_true (by kernel_rfl)) (by unfold Func.isWrapper; first | (rw [if_pos (by decide +kernel)]; kernel_rfl) | (rw [if_neg (by decide +kernel)]; exact ⟨rfl, rfl⟩))
    (fun os started H enc _ F => by rw [OpenClaim.pre_eq_preRow]; exact lifted os started H enc F)

#print axioms said
end Go.Proofs.Ytdmiihmaijbkfaa.phosphorJoined

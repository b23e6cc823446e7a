/-
  ParserCancels holds, whatever the input.
-/
import Derived.Test.YtdmiihmaijbkfaaFrame0
import Derived.Test.YtdmiihmaijbkfaaPrfR
import Derived.Test.YtdmiihmaijbkfaaFramePn
namespace Go.Proofs.Ytdmiihmaijbkfaa.parserCancels
open Go.ChangeShapes Go.WideShapes Go.ChangeAt Go.RowKit
open Go.ChangeMaps (open_string)

theorem feed_24 (s : Ps) : feedL s [24] = (ps0, []) := by
  have e : takeP s 24 = (ps0, tok0) := by unfold takeP; rw [if_neg (fun h => h.2 (.inl rfl))]; rfl
  rw [feedL_run]
  show runQ s [24] = _
  rw [run_cons, e]
  rfl
theorem feed_26 (s : Ps) : feedL s [26] = (ps0, [ctlT 26]) := by
  have e : takeP s 26 = (ps0, ctlT 26) := by unfold takeP; rw [if_neg (fun h => h.2 (.inr rfl))]; rfl
  rw [feedL_run]
  show runQ s [26] = _
  rw [run_cons, e]
  rfl
theorem row_byt (W : World) (c : Nat) : RByt (W.alloc (.cells #[.int .u8 (c : Int)] 5)) (some ⟨W.heap.size, 0, none⟩) [c] := row_reads W 5 (u8s [c]) 1 1 rfl
theorem rest_far {w : World} {A : Option Addr} {l : List Nat} (h : RByt w A l) {n cap : Nat} (hn : n ≤ l.length) (hc : l.length ≤ cap) : ∃ A' c', (∀ W, (Instr.slice 22 (.slice A l.length cap) (some (.int .i64 (n : Int))) none none).run Try.prog W = .ok (.slice A' (l.drop n).length c') W) ∧ RByt w A' (l.drop n) ∧ (∀ ad', 0 < (l.drop n).length → A' = some ad' → ∃ ad, A = some ad ∧ ad'.block = ad.block) := by
  obtain ⟨A', c', h1, h2, h3, _⟩ := h.sub (a := n) (b := l.length) (cap := cap) hn (Nat.le_refl _) hc
  rw [List.take_length] at h1 h2 h3
  refine ⟨A', c', fun W => ?_, h2, fun ad h0 e => h3 ad e h0⟩
  rw [run_slice_l W _ A l.length cap Try.underlying22 .i64 (n : Int) (by omega) (by omega), ← h1]
  exact size_is A cap n l.length
set_option maxRecDepth 100000 in
set_option maxHeartbeats 16000000 in
theorem walk (A : Option Addr) (cap : Nat) (ns : List Nat) (_hm : ns.length ≤ maxLen) (hcap : ns.length ≤ cap) (hn : ∀ x ∈ ns, x < 256) (at' : Int) (w : World) (hri : RByt w A ns) :
    Calls Try.prog 8 #[.slice A ns.length cap, .int .i64 at'] w fun e w' => e = .returned (.bool true) ∧ Below w.heap.size w w' := by
  have HAw := Lib.hid (prsAwake_any w)
  have HSh := Lib.hid (fun W => short_any A cap ns 1000 (by decide) hcap W)
  have HMl : Hid ((ns.take 1000).length ≤ 1000) := Lib.hid (by simp; omega)
  have HMb : Hid (∀ x ∈ ns.take 1000, x < 256) := Lib.hid (fun x hx => hn x (List.mem_of_mem_take hx))
  have HR := Lib.hid (hri.takeP 1000)
  clear hri hn hcap
  generalize ns.take 1000 = ms at *
  have hmL : ms.length ≤ 1000 := HMl.out
  go_enter Try.func8, Try.ntmps8
  go_wp2_with fail
  refine HAw.out.mono ?_
  rintro e w1 ⟨rfl, hb⟩
  have HB1 := Lib.hid hb
  clear hb HAw
  go_wp2_with fail
  refine (HSh.out _).mono ?_
  rintro e w2 ⟨c2, rfl, rfl, hc2⟩
  clear HSh
  have HR2 := Lib.hid (HR.out.next HB1.out)
  clear HR
  have hways : (∃ a : Nat, a = ms.length ∧ ((at' < 0) = True ∨ ((at' < 0) = False ∧ ((ms.length : Int) < at') = True))) ∨ (∃ a : Nat, at' = (a : Int) ∧ a ≤ ms.length ∧ ((a : Int) < 0) = False ∧ ((ms.length : Int) < (a : Int)) = False ∧ (ms.length < a) = False) := by
    by_cases h : at' < 0
    · exact .inl ⟨_, rfl, .inl (eq_true h)⟩
    · by_cases h2 : (ms.length : Int) < at'
      · exact .inl ⟨_, rfl, .inr ⟨eq_false h, eq_true h2⟩⟩
      · exact .inr ⟨at'.toNat, by omega, by omega, eq_false (by omega), eq_false (by omega), eq_false (by omega)⟩
  rcases hways with ⟨a, ha, hg⟩ | ⟨a, ha, hal, g1, g2, g3⟩
  · rcases hg with g1 | ⟨g1, g2⟩
    all_goals
      subst ha
      have hnL : ms.length ≤ ms.length := Nat.le_refl _
      --#0
      go_upto_region 6 with fail
      (try clear g1)
      (try clear g2)
      --#1
      go_upto_region 7 with (refine wpList_alloc_ps rfl rfl ?_)
      have hal3 : Below w2.heap.size w2 (w2.alloc (.cells ps0.cells.toArray 38)) := (Below.refl _ _).alloc (Nat.le_refl _) _
      have HB23 := Lib.hid hal3
      have HP3 := Lib.hid (ps_new w2)
      have HR3 := Lib.hid (HR2.out.next hal3)
      have HFar : Hid (∀ ad, 0 < ms.length → A = some ad → ad.block ≠ w2.heap.size) := Lib.hid (far_new HR2.out (Nat.le_refl _))
      have HZ3 : Hid (w2.heap.size < (w2.alloc (.cells ps0.cells.toArray 38)).heap.size) := Lib.hid (by simp)
      clear hal3 HR2
      generalize w2.alloc (.cells ps0.cells.toArray 38) = w3 at *
      have n2 : ((ms.length : Int) ≤ (c2 : Int)) = True := eq_true (by omega)
      have n0 : (0 : Int) ≤ (ms.length : Int) := by omega
      obtain ⟨ps, hps⟩ : ∃ ps, ps = ms.take ms.length := ⟨_, rfl⟩
      have hpl : ps.length = ms.length := by rw [hps, List.length_take]; omega
      have HPb : Hid (∀ x ∈ ps, x < 256) := Lib.hid (fun x hx => by rw [hps] at hx; exact HMb.out x (List.mem_of_mem_take hx))
      have HPr : Hid (∀ W, RByt W A ms → RByt W A ps) := Lib.hid (fun W h => by rw [hps]; exact h.takeP ms.length)
      have HRr : Hid (∀ W, RByt W A ms → ∃ A' c', (∀ W', (Instr.slice 22 (.slice A ms.length c2) (some (.int .i64 (ms.length : Int))) none none).run Try.prog W' = .ok (.slice A' (ms.drop ms.length).length c') W') ∧ RByt W A' (ms.drop ms.length) ∧ (∀ ad', 0 < (ms.drop ms.length).length → A' = some ad' → ∃ ad, A = some ad ∧ ad'.block = ad.block)) := Lib.hid (fun W h => rest_far h (n := ms.length) hnL hc2)
      have HDb : Hid (∀ x ∈ ms.drop ms.length, x < 256) := Lib.hid (fun x hx => HMb.out x (List.mem_of_mem_drop hx))
      have HDl : Hid ((ms.drop ms.length).length ≤ 1000) := Lib.hid (by rw [List.length_drop]; omega)
      have HPl : Hid (ps.length ≤ 1000) := Lib.hid (by omega)
      have HFe1 := Lib.hid (feed_any w2.heap.size ps0 R0 A c2 ps HPb.out (by omega) (fun ad h0 e => HFar.out ad (by omega) e) w3 HP3.out (HPr.out _ HR3.out))
      have HSz := Lib.hid (szs_feed ps HPb.out)
      have HFf := Lib.hid (feedL_facts ps0 R0 ps)
      have HSp := Lib.hid (fun W h => refSplitF_any A c2 ps HPb.out (by omega) W h)
      rw [hpl] at HFe1 HSp
      clear hps hpl
      generalize feedL ps0 ps = r1 at *
      obtain ⟨s1, ts⟩ := r1
      dsimp only at *
      --#2
      go_wp2_with fail
      refine HFe1.out.mono ?_
      rintro e w4 ⟨v1, rfl, hw4⟩
      have hal5 : Below w4.heap.size w4 (w4.alloc (.cells #[.int .u8 24] 5)) := (Below.refl _ _).alloc (Nat.le_refl _) _
      have HW5 := Lib.hid (hw4.more hal5)
      have HFe2 := Lib.hid (feed_any w2.heap.size s1 hw4.pl (some ⟨w4.heap.size, 0, none⟩) 1 [24] (by decide) (by decide) (fun ad _ e => by injection e with e; subst e; have := hw4.gro.size; have := HZ3.out; show w4.heap.size ≠ _; omega) _ HW5.out.prs (row_byt w4 24))
      rw [feed_24] at HFe2
      clear hw4 hal5 HFe1
      --#3
      go_wp2_with fail
      refine HFe2.out.mono ?_
      rintro e w6 ⟨v2, rfl, hw6⟩
      have HW6 := Lib.hid (HW5.out.call hw6.prs hw6.gro hw6.pl)
      obtain ⟨A6, c6, rfl, _⟩ := hw6.tok.reads
      clear hw6 HFe2 HW5
      have HR6 := Lib.hid (rbyt_grown' HR3.out HW6.out.gro HFar.out)
      have HSpl := Lib.hid (HSp.out w6 (HPr.out _ HR6.out))
      --#4
      go_wp2_with fail
      refine HSpl.out.mono ?_
      rintro e w7 ⟨⟨A7, c7, rfl, hr7⟩, hb7⟩
      have HW7 := Lib.hid (HW6.out.more hb7)
      have HT7 := Lib.hid hr7
      have HR7 := Lib.hid (HR6.out.next hb7)
      have HI7 := Lib.hid (idle_any w2.heap.size ps0 w7 HW7.out.prs)
      clear hr7 hb7 HSpl HW6 HR6 HSp
      obtain ⟨A8, c8, rfl, hr8⟩ := HW7.out.tok.reads
      have HAre := Lib.hid (are_any A8 c8 ts A7 c7 ts (by have := HFf.out.2; have := HPl.out; omega) HSz.out HSz.out w7 hr8 HT7.out)
      clear hr8 HT7
      have hz0 : (ps0.pl == 0) = true := rfl
      rw [hz0] at HI7
      clear hz0
      --#5
      go_wp2_with fail
      refine HI7.out.mono ?_
      rintro e wx ⟨rfl, rfl⟩
      go_wp2_with fail
      refine HAre.out.mono ?_
      rintro e w8 ⟨⟨b, rfl, hbq⟩, hb8⟩
      obtain rfl : b = true := hbq.2 (areP_self ts)
      have HW8 := Lib.hid (HW7.out.more hb8)
      have HR8 := Lib.hid (HR7.out.next hb8)
      clear hb8 hbq HAre HI7 HW7 HR7
      obtain ⟨A9, c9, hs9, hr9, hf9⟩ := HRr.out w8 HR8.out
      have hfar9 : ∀ ad, 0 < (ms.drop ms.length).length → A9 = some ad → ad.block ≠ w2.heap.size := fun ad h0 e => by
        obtain ⟨ad0, e0, e1⟩ := hf9 ad h0 e
        rw [e1]
        exact HFar.out ad0 (by rw [List.length_drop] at h0; omega) e0
      have HFe3 := Lib.hid (feed_any w2.heap.size ps0 R0 A9 c9 (ms.drop ms.length) HDb.out (by have := HDl.out; omega) hfar9 w8 HW8.out.prs hr9)
      have HPd := Lib.hid (feedL_facts ps0 R0 (ms.drop ms.length))
      have hsl9 := hs9 w8
      clear hfar9 hr9 hs9 hf9 HRr HDb HDl
      generalize (ms.drop ms.length).length = ln at *
      generalize feedL ps0 (ms.drop ms.length) = r3 at *
      obtain ⟨s3, ts3⟩ := r3
      dsimp only at *
      --#6
      go_wp2_with fail
      refine HFe3.out.mono ?_
      rintro e w9 ⟨v3, rfl, hw9⟩
      have hal10 : Below w9.heap.size w9 (w9.alloc (.cells #[.int .u8 26] 5)) := (Below.refl _ _).alloc (Nat.le_refl _) _
      have HW9 := Lib.hid (HW8.out.call hw9.prs hw9.gro hw9.pl)
      have HW10 := Lib.hid (HW9.out.more hal10)
      have HFe4 := Lib.hid (feed_any w2.heap.size s3 hw9.pl (some ⟨w9.heap.size, 0, none⟩) 1 [26] (by decide) (by decide) (fun ad _ e => by injection e with e; subst e; have := HW9.out.gro.size; have := HZ3.out; show w9.heap.size ≠ _; omega) _ HW10.out.prs (row_byt w9 26))
      rw [feed_26] at HFe4
      clear hw9 hal10 HFe3 HW9 HW8 hsl9
      --#7
      go_wp2_with fail
      refine HFe4.out.mono ?_
      rintro e w11 ⟨v4, rfl, hw11⟩
      have HW11 := Lib.hid (HW10.out.call hw11.prs hw11.gro hw11.pl)
      obtain ⟨A11, c11, rfl, hr11⟩ := hw11.tok.reads
      obtain ⟨ad, P, pc, D, dc, rfl, _, _, x0, x1, _⟩ := hr11.at_ (k := 0) (by decide)
      rw [Nat.zero_mul, ad_zero] at x0 x1
      have HI11 := Lib.hid (idle_any w2.heap.size ps0 w11 HW11.out.prs)
      have hz0 : (ps0.pl == 0) = true := rfl
      rw [hz0] at HI11
      have hbf := below_of_grown HB23.out HW11.out.gro (Nat.le_refl _) HB23.out.size
      have HB11 := Lib.hid (HB1.out.trans (hbf.mono HB1.out.size))
      clear hw11 hr11 HFe4 HW10 hbf hz0 HW11
      --#8
      go_wp2_with fail
      refine HI11.out.mono ?_
      rintro e wx ⟨rfl, rfl⟩
      go_wp2_with fail
      go_ret
      exact ⟨rfl, HB11.out⟩
  · subst ha
    have hnL : a ≤ ms.length := hal
    --#0
    go_upto_region 6 with fail
    clear g1 g2 g3 hal
    --#1
    go_upto_region 7 with (refine wpList_alloc_ps rfl rfl ?_)
    have hal3 : Below w2.heap.size w2 (w2.alloc (.cells ps0.cells.toArray 38)) := (Below.refl _ _).alloc (Nat.le_refl _) _
    have HB23 := Lib.hid hal3
    have HP3 := Lib.hid (ps_new w2)
    have HR3 := Lib.hid (HR2.out.next hal3)
    have HFar : Hid (∀ ad, 0 < ms.length → A = some ad → ad.block ≠ w2.heap.size) := Lib.hid (far_new HR2.out (Nat.le_refl _))
    have HZ3 : Hid (w2.heap.size < (w2.alloc (.cells ps0.cells.toArray 38)).heap.size) := Lib.hid (by simp)
    clear hal3 HR2
    generalize w2.alloc (.cells ps0.cells.toArray 38) = w3 at *
    have n2 : ((a : Int) ≤ (c2 : Int)) = True := eq_true (by omega)
    have n0 : (0 : Int) ≤ (a : Int) := by omega
    obtain ⟨ps, hps⟩ : ∃ ps, ps = ms.take a := ⟨_, rfl⟩
    have hpl : ps.length = a := by rw [hps, List.length_take]; omega
    have HPb : Hid (∀ x ∈ ps, x < 256) := Lib.hid (fun x hx => by rw [hps] at hx; exact HMb.out x (List.mem_of_mem_take hx))
    have HPr : Hid (∀ W, RByt W A ms → RByt W A ps) := Lib.hid (fun W h => by rw [hps]; exact h.takeP a)
    have HRr : Hid (∀ W, RByt W A ms → ∃ A' c', (∀ W', (Instr.slice 22 (.slice A ms.length c2) (some (.int .i64 (a : Int))) none none).run Try.prog W' = .ok (.slice A' (ms.drop a).length c') W') ∧ RByt W A' (ms.drop a) ∧ (∀ ad', 0 < (ms.drop a).length → A' = some ad' → ∃ ad, A = some ad ∧ ad'.block = ad.block)) := Lib.hid (fun W h => rest_far h (n := a) hnL hc2)
    have HDb : Hid (∀ x ∈ ms.drop a, x < 256) := Lib.hid (fun x hx => HMb.out x (List.mem_of_mem_drop hx))
    have HDl : Hid ((ms.drop a).length ≤ 1000) := Lib.hid (by rw [List.length_drop]; omega)
    have HPl : Hid (ps.length ≤ 1000) := Lib.hid (by omega)
    have HFe1 := Lib.hid (feed_any w2.heap.size ps0 R0 A c2 ps HPb.out (by omega) (fun ad h0 e => HFar.out ad (by omega) e) w3 HP3.out (HPr.out _ HR3.out))
    have HSz := Lib.hid (szs_feed ps HPb.out)
    have HFf := Lib.hid (feedL_facts ps0 R0 ps)
    have HSp := Lib.hid (fun W h => refSplitF_any A c2 ps HPb.out (by omega) W h)
    rw [hpl] at HFe1 HSp
    clear hps hpl
    generalize feedL ps0 ps = r1 at *
    obtain ⟨s1, ts⟩ := r1
    dsimp only at *
    --#2
    go_wp2_with fail
    refine HFe1.out.mono ?_
    rintro e w4 ⟨v1, rfl, hw4⟩
    have hal5 : Below w4.heap.size w4 (w4.alloc (.cells #[.int .u8 24] 5)) := (Below.refl _ _).alloc (Nat.le_refl _) _
    have HW5 := Lib.hid (hw4.more hal5)
    have HFe2 := Lib.hid (feed_any w2.heap.size s1 hw4.pl (some ⟨w4.heap.size, 0, none⟩) 1 [24] (by decide) (by decide) (fun ad _ e => by injection e with e; subst e; have := hw4.gro.size; have := HZ3.out; show w4.heap.size ≠ _; omega) _ HW5.out.prs (row_byt w4 24))
    rw [feed_24] at HFe2
    clear hw4 hal5 HFe1
    --#3
    go_wp2_with fail
    refine HFe2.out.mono ?_
    rintro e w6 ⟨v2, rfl, hw6⟩
    have HW6 := Lib.hid (HW5.out.call hw6.prs hw6.gro hw6.pl)
    obtain ⟨A6, c6, rfl, _⟩ := hw6.tok.reads
    clear hw6 HFe2 HW5
    have HR6 := Lib.hid (rbyt_grown' HR3.out HW6.out.gro HFar.out)
    have HSpl := Lib.hid (HSp.out w6 (HPr.out _ HR6.out))
    --#4
    go_wp2_with fail
    refine HSpl.out.mono ?_
    rintro e w7 ⟨⟨A7, c7, rfl, hr7⟩, hb7⟩
    have HW7 := Lib.hid (HW6.out.more hb7)
    have HT7 := Lib.hid hr7
    have HR7 := Lib.hid (HR6.out.next hb7)
    have HI7 := Lib.hid (idle_any w2.heap.size ps0 w7 HW7.out.prs)
    clear hr7 hb7 HSpl HW6 HR6 HSp
    obtain ⟨A8, c8, rfl, hr8⟩ := HW7.out.tok.reads
    have HAre := Lib.hid (are_any A8 c8 ts A7 c7 ts (by have := HFf.out.2; have := HPl.out; omega) HSz.out HSz.out w7 hr8 HT7.out)
    clear hr8 HT7
    have hz0 : (ps0.pl == 0) = true := rfl
    rw [hz0] at HI7
    clear hz0
    --#5
    go_wp2_with fail
    refine HI7.out.mono ?_
    rintro e wx ⟨rfl, rfl⟩
    go_wp2_with fail
    refine HAre.out.mono ?_
    rintro e w8 ⟨⟨b, rfl, hbq⟩, hb8⟩
    obtain rfl : b = true := hbq.2 (areP_self ts)
    have HW8 := Lib.hid (HW7.out.more hb8)
    have HR8 := Lib.hid (HR7.out.next hb8)
    clear hb8 hbq HAre HI7 HW7 HR7
    obtain ⟨A9, c9, hs9, hr9, hf9⟩ := HRr.out w8 HR8.out
    have hfar9 : ∀ ad, 0 < (ms.drop a).length → A9 = some ad → ad.block ≠ w2.heap.size := fun ad h0 e => by
      obtain ⟨ad0, e0, e1⟩ := hf9 ad h0 e
      rw [e1]
      exact HFar.out ad0 (by rw [List.length_drop] at h0; omega) e0
    have HFe3 := Lib.hid (feed_any w2.heap.size ps0 R0 A9 c9 (ms.drop a) HDb.out (by have := HDl.out; omega) hfar9 w8 HW8.out.prs hr9)
    have HPd := Lib.hid (feedL_facts ps0 R0 (ms.drop a))
    have hsl9 := hs9 w8
    clear hfar9 hr9 hs9 hf9 HRr HDb HDl
    generalize (ms.drop a).length = ln at *
    generalize feedL ps0 (ms.drop a) = r3 at *
    obtain ⟨s3, ts3⟩ := r3
    dsimp only at *
    --#6
    go_wp2_with fail
    refine HFe3.out.mono ?_
    rintro e w9 ⟨v3, rfl, hw9⟩
    have hal10 : Below w9.heap.size w9 (w9.alloc (.cells #[.int .u8 26] 5)) := (Below.refl _ _).alloc (Nat.le_refl _) _
    have HW9 := Lib.hid (HW8.out.call hw9.prs hw9.gro hw9.pl)
    have HW10 := Lib.hid (HW9.out.more hal10)
    have HFe4 := Lib.hid (feed_any w2.heap.size s3 hw9.pl (some ⟨w9.heap.size, 0, none⟩) 1 [26] (by decide) (by decide) (fun ad _ e => by injection e with e; subst e; have := HW9.out.gro.size; have := HZ3.out; show w9.heap.size ≠ _; omega) _ HW10.out.prs (row_byt w9 26))
    rw [feed_26] at HFe4
    clear hw9 hal10 HFe3 HW9 HW8 hsl9
    --#7
    go_wp2_with fail
    refine HFe4.out.mono ?_
    rintro e w11 ⟨v4, rfl, hw11⟩
    have HW11 := Lib.hid (HW10.out.call hw11.prs hw11.gro hw11.pl)
    obtain ⟨A11, c11, rfl, hr11⟩ := hw11.tok.reads
    obtain ⟨ad, P, pc, D, dc, rfl, _, _, x0, x1, _⟩ := hr11.at_ (k := 0) (by decide)
    rw [Nat.zero_mul, ad_zero] at x0 x1
    have HI11 := Lib.hid (idle_any w2.heap.size ps0 w11 HW11.out.prs)
    have hz0 : (ps0.pl == 0) = true := rfl
    rw [hz0] at HI11
    have hbf := below_of_grown HB23.out HW11.out.gro (Nat.le_refl _) HB23.out.size
    have HB11 := Lib.hid (HB1.out.trans (hbf.mono HB1.out.size))
    clear hw11 hr11 HFe4 HW10 hbf hz0 HW11
    --#8
    go_wp2_with fail
    refine HI11.out.mono ?_
    rintro e wx ⟨rfl, rfl⟩
    go_wp2_with fail
    go_ret
    exact ⟨rfl, HB11.out⟩

set_option maxRecDepth 100000 in
/-- What the walk gives, for every argument and every world that holds the table. -/
theorem contract (H : Type) (enc : TypeId × Value → H) (W : World) (base : Nat) (args : Array Value) (ds gs : List (DataW H)) (before : List MemPlace)
    (hval : ∀ (j : Nat) t v, Try.f8.params[j]? = some t → args[j]? = some v → Value.okWide Try.prog W .any base t v)
    (hW : DataW.Whole enc Try.prog Try.f8.params.toList Rows.parserCancelsSpec.vars false W args.toList ds gs before) (_hL : laidMetH Try.prog Rows.parserCancelsRow.laid W)
    (hreach : (DataW.weightsEach Try.prog (Try.f8.params.toList ++ []) (ds ++ gs)).all (· ≤ reachBytes) = true) :
    Calls Try.prog 8 args W fun e W' => ∃ v, e = .returned v ∧ Rows.parserCancelsSpec.post enc Try.prog Try.f8 false true false false W args v W' := by
  have hW' := hW
  clear _hL
  have hlts : ∀ x ∈ before, x.block < W.heap.size := fun x hx => hW'.lt x hx
  obtain ⟨p, q, hA0, hV, rfl, hfz, hnd⟩ := hW
  have hA : DataW.TrodAll enc Try.prog W 0 (fun _ => true) true Try.f8.params.toList args.toList ds p := hA0
  rw [Try.params8] at hA hval hreach
  obtain ⟨v0, vs0, d0, ds0, pp0, qq0, hargs, rfl, rfl, h0, rr0⟩ := trodAll_cons hA
  obtain ⟨v1, vs1, d1, ds1, pp1, qq1, rfl, rfl, rfl, h1, rr1⟩ := trodAll_cons rr0
  obtain ⟨rfl, rfl, rfl⟩ := trodAll_nil rr1
  obtain rfl : args = #[v0, v1] := by cases args; simp_all
  obtain ⟨rfl, rfl⟩ := trodVars_none hV
  obtain ⟨b0, len0, cap0, rfl⟩ := okWide_slice Try.underlying22 (hval 0 22 v0 rfl rfl)
  obtain ⟨l0, hlen0, hm0, hc0, ok0, hri0⟩ := bytes_inP h0
  subst hlen0
  obtain ⟨a1, rfl, rfl, rfl, w1⟩ := open_int Try.underlying3 (hval 1 3 v1 rfl rfl) h1
  clear hA0
  refine (walk b0 cap0 l0 hm0 hc0 ok0 a1 W hri0).mono fun e W' ⟨he, hb⟩ => ?_
  subst he
  exact ⟨_, rfl, post_law laidOut (by kernel_rfl) (by kernel_rfl) rfl hW' rfl hb⟩

set_option maxRecDepth 100000 in
theorem laid_met (os : Os) : laidMet Try.prog Rows.parserCancelsRow.laid ((laidWorld os).forCall (fun _ _ => 0) ⟨#[], #[Value.slice none 0 0, Value.int .i64 0], []⟩).memory :=
  laidMet_of_run' 8 (by kernel_rfl) (by kernel_rfl)
set_option maxRecDepth 100000 in
theorem reads (os : Os) {H : Type} (enc : TypeId × Value → H) : ∃ places, DataW.whole enc Try.prog ((laidWorld os).forCall (fun _ _ => 0) ⟨#[], #[Value.slice none 0 0, Value.int .i64 0], []⟩).memory Try.f8.params.toList Rows.parserCancelsSpec.vars false (#[Value.slice none 0 0, Value.int .i64 0] : Array Value).toList 8 = some ([.nil, .lit (.int .i64 0)], [], places) :=
  ⟨[], by kernel_rfl⟩

set_option maxRecDepth 100000 in
theorem lifted (os : Os) (started : os.Started) (H : Type) (enc : TypeId × Value → H) (F : Stop.Interp) :
    ReturnsInHanded {} Try.checked os 8 .any ((OpenSpec.ofChange Rows.parserCancelsSpec).preRow enc Try.prog Try.f8 Rows.parserCancelsRow.domain false Rows.parserCancelsRow.laid) (((OpenSpec.ofChange Rows.parserCancelsSpec).at F).post enc Try.prog Try.f8 false true false false) := by
  obtain ⟨places, hx⟩ := reads os enc
  refine returnsInHanded_of_row (C := Try.checked) (s := OpenSpec.ofChange Rows.parserCancelsSpec) own started (by kernel_rfl) Try.func8
    (witness_row_at (enc := enc) (C := Try.checked) false (laidWorld os) #[Value.slice none 0 0, Value.int .i64 0] rfl (by kernel_rfl) (by kernel_rfl) (by kernel_rfl)
      (OpenSpec.preRow_of_cond 8 hx (by kernel_rfl) (fun k hk => by cases hk) (by kernel_rfl) (laid_met os))) ?_
  intro W base args ds gs before hval hW _ _ hreach hL _ _
  exact contract H enc W base args ds gs before hval hW hL hreach

theorem said : Rows.ParserCancelsSaid :=
  OpenClaim.holds_of_cond 8 Try.f8 rfl rfl rfl rfl rfl rfl rfl ⟨rfl, rfl, rfl, rfl, rfl⟩ rfl rfl rfl rfl rfl (by kernel_rfl) Try.func8 (by kernel_rfl)
    (of_decide_eq_true (by kernel_rfl)) (by unfold Func.isWrapper; first | (rw [if_pos (by decide +kernel)]; kernel_rfl) | (rw [if_neg (by decide +kernel)]; exact ⟨rfl, rfl⟩))
    (fun os started H enc _ F => by rw [OpenClaim.pre_eq_preRow]; exact lifted os started H enc F)

#print axioms said
end Go.Proofs.Ytdmiihmaijbkfaa.parserCancels

/-
  States of sets: how the reference brings back what was told.
-/
import Derived.Test.YtfnamfkjbkhgeaaGreatDoorIsoN
namespace Go.Proofs.YtfnamfkjbkhgeaaGreatDoor

open Go Go.RowKit

theorem rest_ways2 {gl gr : Int} {sz : Nat} {x : Iso} {t : ByteArray} (h1 : isoInB 0 gl = true) (h2 : isoInB 1 gr = true) (h3 : 64 ≤ sz) (h4 : sz ≤ 79) (R : Option (Iso × ByteArray)) (hR : R = runR sz 4 0 x t) :
    (R = none → desV (restP x gl gr sz t) = .tuple #[x.val, .bool false]) ∧ (∀ y u, R = some (y, u) → (u.size ≠ 0 → desV (restP x gl gr sz t) = .tuple #[x.val, .bool false]) ∧ (u.size = 0 → desV (restP x gl gr sz t) = .tuple #[(y.lr gl gr).val, .bool true])) := by
  unfold restP
  rw [if_pos ⟨h1, h2, h3, h4⟩, run_lr, ← hR]
  refine ⟨fun e => by rw [e]; rfl, fun y u e => ⟨fun h => ?_, fun h => ?_⟩⟩
  · rw [e]; simp only [Option.map_some]; rw [if_neg h]; rfl
  · rw [e]; simp only [Option.map_some]; rw [if_pos h]; rfl
def KR4 (w : World) (x : Array Value) (g : Nat) (y : Array Value) (W : World) : Prop := KJ w x W ∧ Blk W g 25 y ∧ w.heap.size + 2 ≤ g
theorem KJ.alloc {w W : World} {x : Array Value} (h : KJ w x W) (o : Obj) : KJ w x (W.alloc o) := ⟨h.1.alloc o, h.2.1.alloc o, h.2.2.alloc h.2.2.size o⟩
theorem KR4.next {w W W' : World} {x y : Array Value} {g : Nat} (h : KR4 w x g y W) (hb : Below W.heap.size W W') : KR4 w x g y W' := ⟨h.1.next hb, h.2.1.next hb, h.2.2⟩
theorem KR4.put {w W : World} {x : Array Value} {g : Nat} {u0 u1 u2 u3 u4 u5 u6 : Value} (h : KR4 w x g #[u0, u1, u2, u3, u4, u5, u6] W) (v0 v1 v2 v3 v4 v5 v6 : Value) : KR4 w x g #[v0, v1, v2, v3, v4, v5, v6] (put7 W g v0 v1 v2 v3 v4 v5 v6) :=
  have hg := h.2.2
  have ne0 : w.heap.size ≠ g := by omega
  have ne1 : w.heap.size + 1 ≠ g := by omega
  ⟨⟨((((((h.1.1.far (p := ⟨g, 0, none⟩) ne0 v0).far (p := ⟨g, 1, none⟩) ne0 v1).far (p := ⟨g, 2, none⟩) ne0 v2).far (p := ⟨g, 3, none⟩) ne0 v3).far (p := ⟨g, 4, none⟩) ne0 v4).far (p := ⟨g, 5, none⟩) ne0 v5).far (p := ⟨g, 6, none⟩) ne0 v6, ((((((h.1.2.1.far (p := ⟨g, 0, none⟩) ne1 v0).far (p := ⟨g, 1, none⟩) ne1 v1).far (p := ⟨g, 2, none⟩) ne1 v2).far (p := ⟨g, 3, none⟩) ne1 v3).far (p := ⟨g, 4, none⟩) ne1 v4).far (p := ⟨g, 5, none⟩) ne1 v5).far (p := ⟨g, 6, none⟩) ne1 v6, put7_below h.1.2.2 (by omega) _ _ _ _ _ _ _⟩, put7_blk h.2.1 _ _ _ _ _ _ _, hg⟩
theorem KR4.set2 {w W : World} {x : Array Value} {g : Nat} {u0 u1 u2 u3 u4 u5 u6 : Value} (h : KR4 w x g #[u0, u1, u2, u3, u4, u5, u6] W) (v4 v5 : Value) : KR4 w x g #[u0, u1, u2, u3, v4, v5, u6] ((W.setCell ⟨g, 4, none⟩ v4).setCell ⟨g, 5, none⟩ v5) := by
  have hg := h.2.2
  have hb := (h.2.1.set_ 4 v4).set_ 5 v5
  simp only [List.setIfInBounds_toArray, List.set_cons_zero, List.set_cons_succ] at hb
  exact ⟨⟨(h.1.1.far (p := ⟨g, 4, none⟩) (by simp; omega) v4).far (p := ⟨g, 5, none⟩) (by simp; omega) v5, (h.1.2.1.far (p := ⟨g, 4, none⟩) (by simp; omega) v4).far (p := ⟨g, 5, none⟩) (by simp; omega) v5, (h.1.2.2.setCell (p := ⟨g, 4, none⟩) (by simp; omega) v4).setCell (p := ⟨g, 5, none⟩) (by simp; omega) v5⟩, hb, hg⟩
theorem data_at2 (s : ByteArray) (k : Nat) (hk : k < s.size) : s.data.toList[k]'(by rw [← size_list]; exact hk) = s[k] := by simp; rfl
theorem cutN_at (t : ByteArray) (p : Nat) (h : p < t.size) : cutN (t.extract p t.size) = if t[p] = 37 then 2 else 1 := by
  unfold cutN
  rw [pfx_list, ext_list, List.take_of_length_le (by rw [← size_list]; exact Nat.le_refl _)]
  have h' : p < t.data.toList.length := by rw [← size_list]; exact h
  rw [List.drop_eq_getElem_cons h', List.head?_cons, data_at2 t p h]
  by_cases e : t[p] = 37
  · rw [e]; rfl
  · rw [if_neg e, if_neg]
    simpa using e
theorem cutN_end (t : ByteArray) : cutN (t.extract t.size t.size) = 1 := by
  unfold cutN
  rw [pfx_list, ext_list, List.take_of_length_le (by rw [← size_list]; exact Nat.le_refl _), List.drop_of_length_le (by rw [← size_list]; exact Nat.le_refl _)]
  rfl
theorem cut_short (t : ByteArray) (p n : Nat) (hn : cutN (t.extract p t.size) = n) (hn0 : 0 < n) (h : t.size < p + n) : (⟨#[]⟩, ⟨#[]⟩) = cutP (t.extract p t.size) := by
  unfold cutP
  rw [hn, if_pos (by simp; omega)]
theorem cut_long (t : ByteArray) (p n : Nat) (hn : cutN (t.extract p t.size) = n) (hn0 : 0 < n) (h : p + n ≤ t.size) : (t.extract p (p + n), t.extract (p + n) t.size) = cutP (t.extract p t.size) := by
  unfold cutP
  rw [hn, if_neg (by simp; omega)]
  have hz : (t.extract p t.size).size = t.size - p := by simp
  rw [hz]
  congr 1
  · apply isoBa_ext
    rw [ext_list t p (p + n), ext_list (t.extract p t.size) 0 n, ext_list t p t.size, List.take_of_length_le (l := t.data.toList) (i := t.size) (by rw [← size_list]; exact Nat.le_refl _), List.drop_zero, List.drop_take]
    congr 1
    omega
  · apply isoBa_ext
    rw [ext_list t (p + n) t.size, ext_list (t.extract p t.size) n (t.size - p), ext_list t p t.size, List.take_of_length_le (l := t.data.toList) (i := t.size) (by rw [← size_list]; exact Nat.le_refl _), List.take_of_length_le (by rw [List.length_drop, ← size_list]; exact Nat.le_refl _), List.drop_drop]
theorem bit_facts (sz k : Nat) (h : sz < 256) : (IntKind.i64.wrap (((sz - 64) / 2 ^ k : Nat) : Int) = (((sz - 64) / 2 ^ k : Nat) : Int)) ∧ ((((sz - 64) / 2 ^ k : Nat) : Int).tmod 2 == 1) = bitB sz k ∧ (((sz - 64) / 2 ^ k : Nat) : Int).tdiv 2 = (((sz - 64) / 2 ^ (k + 1) : Nat) : Int) := by
  have hle : (sz - 64) / 2 ^ k ≤ sz - 64 := Nat.div_le_self _ _
  unfold bitB
  rw [Nat.pow_succ, ← Nat.div_div_eq_div_mul]
  generalize (sz - 64) / 2 ^ k = q at *
  refine ⟨IntWalk.i64_in _ (by omega), ?_, ?_⟩
  · rw [Int.tmod_eq_emod_of_nonneg (by omega), Bool.eq_iff_iff, beq_iff_eq, beq_iff_eq]
    omega
  · rw [Int.tdiv_eq_ediv_of_nonneg (by omega)]
    omega
theorem ext_all (t : ByteArray) : t.extract 0 t.size = t := by
  apply isoBa_ext
  rw [ext_list, List.drop_zero, List.take_of_length_le (by rw [← size_list]; exact Nat.le_refl _)]
theorem run_short {sz m g : Nat} {y : Iso} {u v : ByteArray} {R : Option (Iso × ByteArray)} (h : runR sz (m + 1) g y u = R) (hc : (⟨#[]⟩, v) = cutP u) : R = none :=
  (run_step h hc (show (y, false) = desP y g (bitB sz g) ⟨#[]⟩ from (des_empty y g _).symm)).2 rfl
set_option maxRecDepth 100000 in
set_option maxHeartbeats 16000000 in
theorem isoRefRestore_any (x : Iso) (gl gr : Int) (sz : Nat) (hsz : sz < 256) (t : ByteArray) (htz : t.size ≤ 100000) (w : World) :
    Calls Tryz.prog 40 #[x.val, .int .i64 gl, .int .i64 gr, .int .u8 sz, .string t] w fun e w' => e = .returned (desV (restP x gl gr sz t)) ∧ Below w.heap.size w w' := by
  have HK := Lib.hid (KJ.start w x.cs)
  have HNo := Lib.hid (fun h => guard_no (gl := gl) (gr := gr) (sz := sz) (x := x) (s := t) h)
  have HYes : Hid (isoInB 0 gl = true → isoInB 1 gr = true → 64 ≤ sz → sz ≤ 79 → ∀ R, R = runR sz 4 0 x t → (R = none → desV (restP x gl gr sz t) = .tuple #[x.val, .bool false]) ∧ (∀ y u, R = some (y, u) → (u.size ≠ 0 → desV (restP x gl gr sz t) = .tuple #[x.val, .bool false]) ∧ (u.size = 0 → desV (restP x gl gr sz t) = .tuple #[(y.lr gl gr).val, .bool true]))) := Lib.hid (fun h1 h2 h3 h4 R hR => rest_ways2 h1 h2 h3 h4 R hR)
  have HDes := Lib.hid (fun y g wide id W => refDesignate_any y g wide id W)
  generalize desV (restP x gl gr sz t) = V at *
  obtain ⟨a, b, c, d, l, r, s⟩ := x
  unfold Iso.val Iso.cs at *
  simp only at HK HNo ⊢
  by_cases q0 : 0 ≤ gl
  · have g0 : decide (gl < 0) = false := by simp; omega
    by_cases q1 : gl ≤ 3
    · have g1 : decide (3 < gl) = false := by simp; omega
      by_cases q2 : 1 ≤ gr
      · have g2 : decide (gr < 1) = false := by simp; omega
        by_cases q3 : gr ≤ 3
        · have g3 : decide (3 < gr) = false := by simp; omega
          by_cases q4 : 64 ≤ sz
          · have g4 : decide ((sz : Int) < 64) = false := by simp; omega
            by_cases q5 : sz ≤ 79
            · have g5 : decide (79 < (sz : Int)) = false := by simp; omega
              obtain ⟨R0, hR0⟩ : ∃ R, R = runR sz 4 0 ⟨a, b, c, d, l, r, s⟩ t := ⟨_, rfl⟩
              have HY2 := Lib.hid (HYes.out (by unfold isoInB; simp; omega) (by unfold isoInB; simp; omega) q4 q5 R0 hR0)
              have HR0 := Lib.hid hR0.symm
              have HBt : Hid (∀ k : Nat, (IntKind.i64.wrap (((sz - 64) / 2 ^ k : Nat) : Int) = (((sz - 64) / 2 ^ k : Nat) : Int)) ∧ ((((sz - 64) / 2 ^ k : Nat) : Int).tmod 2 == 1) = bitB sz k ∧ (((sz - 64) / 2 ^ k : Nat) : Int).tdiv 2 = (((sz - 64) / 2 ^ (k + 1) : Nat) : Int)) := Lib.hid (fun k => bit_facts sz k (by omega))
              clear HYes hR0 HNo q0 q1 q2 q3
              have hsw : IntKind.i64.wrap (sz : Int) = (sz : Int) := IntWalk.i64_in _ (by omega)
              have hsb : IntKind.i64.wrap ((sz : Int) - 64) = ((sz - 64 : Nat) : Int) := by rw [IntWalk.i64_in _ (by omega)]; omega
              go_enter Tryz.func40, Tryz.ntmps40
              go_upto_region 3 with fail
              generalize (w.alloc (.cells #[.int .i64 a, .int .i64 b, .int .i64 c, .int .i64 d, .int .i64 l, .int .i64 r, .int .i64 s] 25)).alloc (.cells #[.int .i64 0, .int .i64 0, .int .i64 0, .int .i64 0, .int .i64 0, .int .i64 0, .int .i64 0] 25) = w1 at *
              obtain ⟨c0, c1, c2, c3, c4, c5, c6⟩ := seven HK.out.1
              go_wp2_with fail
              have HK4 := Lib.hid (show KR4 w #[.int .i64 a, .int .i64 b, .int .i64 c, .int .i64 d, .int .i64 l, .int .i64 r, .int .i64 s] w1.heap.size #[.int .i64 a, .int .i64 b, .int .i64 c, .int .i64 d, .int .i64 l, .int .i64 r, .int .i64 s] (w1.alloc (.cells #[.int .i64 a, .int .i64 b, .int .i64 c, .int .i64 d, .int .i64 l, .int .i64 r, .int .i64 s] 25)) from ⟨KJ.alloc HK.out _, Blk.new w1 _ _, by have := Blk.lt HK.out.2.1; omega⟩)
              clear HK c0 c1 c2 c3 c4 c5 c6
              generalize w1.alloc (.cells #[.int .i64 a, .int .i64 b, .int .i64 c, .int .i64 d, .int .i64 l, .int .i64 r, .int .i64 s] 25) = w4 at *
              generalize w1.heap.size = g at *
              go_loopw [13, 14, 15] (fun bt at_ i wr => ∃ (k p : Nat) (ya yb yc yd yl yr ys : Int), k ≤ 4 ∧ p ≤ t.size ∧ i = .int .i64 k ∧ bt = .int .i64 (((sz - 64) / 2 ^ k : Nat) : Int) ∧ at_ = .int .i64 p ∧ runR sz (4 - k) k ⟨ya, yb, yc, yd, yl, yr, ys⟩ (t.extract p t.size) = R0 ∧ KR4 w #[.int .i64 a, .int .i64 b, .int .i64 c, .int .i64 d, .int .i64 l, .int .i64 r, .int .i64 s] g #[.int .i64 ya, .int .i64 yb, .int .i64 yc, .int .i64 yd, .int .i64 yl, .int .i64 yr, .int .i64 ys] wr) (fun _ _ i _ => 4 - (intOf i).toNat)
              case atStart => exact ⟨0, 0, a, b, c, d, l, r, s, by omega, by omega, rfl, by simp, rfl, by rw [ext_all]; exact HR0.out, HK4.out⟩
              case round =>
                obtain ⟨k, p, ya, yb, yc, yd, yl, yr, ys, hk, hp, rfl, rfl, rfl, hrun, hkr⟩ := hrel
                have HRn := Lib.hid hrun; have HKr := Lib.hid hkr
                clear hrun hkr
                by_cases hlt : k < 4
                · obtain ⟨m, hm⟩ : ∃ m, 4 - k = m + 1 := ⟨3 - k, by omega⟩
                  have hm2 : 4 - (k + 1) = m := by omega
                  rw [hm] at HRn
                  clear hm hk
                  by_cases hlt2 : p < t.size
                  · have hcn := cutN_at t p hlt2
                    by_cases h37 : t[p] = 37
                    · rw [if_pos h37] at hcn
                      have h37n : ((t[p].toNat : Int) == 37) = true := by rw [h37]; decide
                      clear h37
                      by_cases hsh : t.size < p + 2
                      · have hV := HY2.out.1 (run_short HRn.out (cut_short t p 2 hcn (by omega) hsh))
                        have hcm : decide ((t.size : Int) - p < 2) = true := by simp; omega
                        have hsw2 : IntKind.i64.wrap ((t.size : Int) - p) = (t.size : Int) - p := IntWalk.i64_in _ (by omega)
                        subst hV
                        have HKf := Lib.hid HKr.out.1
                        clear HY2 HRn hcn hsh hm2 hsz htz hsw hsb q4 q5
                        go_upto_region 13 with fail
                        obtain ⟨z0, z1, z2, z3, z4, z5, z6⟩ := seven HKf.out.1
                        obtain ⟨u0, u1, u2, u3, u4, u5, u6⟩ := seven HKf.out.2.1
                        obtain ⟨f0, f1, f2, f3, f4, f5, f6⟩ := seven_fr HKf.out.2.1
                        obtain ⟨⟨e0, e1, e2, e3, e4, e5, e6⟩, hbl⟩ := KJ.res HKf.out (.int .i64 a) (.int .i64 b) (.int .i64 c) (.int .i64 d) (.int .i64 l) (.int .i64 r) (.int .i64 s)
                        unfold put7 at e0 e1 e2 e3 e4 e5 e6 hbl
                        go_wp2_with fail
                        exact bodyPost_ret (v := .tuple #[.agg #[.int .i64 a, .int .i64 b, .int .i64 c, .int .i64 d, .int .i64 l, .int .i64 r, .int .i64 s], .bool false]) (by simp [results, Tryz.results40, go_sem, e0, e1, e2, e3, e4, e5, e6]) rfl ⟨rfl, hbl⟩
                      · have hcu := cut_long t p 2 hcn (by omega) (by omega)
                        have hcm : decide ((t.size : Int) - p < 2) = false := by simp; omega
                        have hsw2 : IntKind.i64.wrap ((t.size : Int) - p) = (t.size : Int) - p := IntWalk.i64_in _ (by omega)
                        have hple : p + 2 ≤ t.size := by omega
                        obtain ⟨pn, hpn⟩ : ∃ pn, pn = p + 2 := ⟨_, rfl⟩
                        have hpa : IntKind.i64.wrap ((p : Int) + 2) = (pn : Int) := by rw [IntWalk.i64_in _ (by omega)]; omega
                        rw [← hpn] at hple hcu
                        have hpl2 : p ≤ pn := by omega
                        have hpl3 : (p : Int) ≤ (pn : Int) := by omega
                        have hpl4 : (pn : Int) ≤ (t.size : Int) := by omega
                        clear hpn
                        obtain ⟨⟨⟨na, nb, nc, nd, nl, nr, ns⟩, ok⟩, hdd⟩ : ∃ q, q = desP ⟨ya, yb, yc, yd, yl, yr, ys⟩ (k : Int) (bitB sz k) (t.extract p pn) := ⟨_, rfl⟩
                        have HDk : Hid (∀ W, Calls Tryz.prog 85 #[.agg #[.int .i64 ya, .int .i64 yb, .int .i64 yc, .int .i64 yd, .int .i64 yl, .int .i64 yr, .int .i64 ys], .int .i64 k, .bool (bitB sz k), .string (t.extract p pn)] W fun e w' => e = .returned (.tuple #[.agg #[.int .i64 na, .int .i64 nb, .int .i64 nc, .int .i64 nd, .int .i64 nl, .int .i64 nr, .int .i64 ns], .bool ok]) ∧ Below W.heap.size W w') := Lib.hid (fun W => by have := HDes.out ⟨ya, yb, yc, yd, yl, yr, ys⟩ (k : Int) (bitB sz k) (t.extract p pn) W; rw [← hdd] at this; exact this)
                        have HSp := Lib.hid (run_step HRn.out hcu hdd)
                        obtain ⟨hb1, hb2, hb3⟩ := HBt.out k
                        have HB3 := Lib.hid hb3
                        clear hcu hdd hcn HRn hb3
                        have hqb : (sz - 64) / 2 ^ k < 256 := Nat.lt_of_le_of_lt (Nat.div_le_self _ _) (by omega)
                        generalize hq : (sz - 64) / 2 ^ k = q at *
                        have HQ := Lib.hid hq
                        clear hq
                        generalize bitB sz k = bt at *
                        go_upto_region 14 with fail
                        refine wp_region_mix_lit (by kernel_rfl) [(11, .call (.tuple #[.agg #[.int .i64 na, .int .i64 nb, .int .i64 nc, .int .i64 nd, .int .i64 nl, .int .i64 nr, .int .i64 ns], .bool ok])), (15, .alloc 16 25 #[.int .i64 0, .int .i64 0, .int .i64 0, .int .i64 0, .int .i64 0, .int .i64 0, .int .i64 0] (fun _ => #[.int .i64 na, .int .i64 nb, .int .i64 nc, .int .i64 nd, .int .i64 nl, .int .i64 nr, .int .i64 ns])), (16, .init 15)] (by kernel_rfl) (by kernel_rfl) (by kernel_rfl) (by rfl) (by simp [apartK] <;> omega) (by simp [startK]) (by simp [stabK]) (⟨fun _ => .pointer (some ⟨wr.heap.size, 0, none⟩), by simp [okK]⟩) (fun β hβ => ?_)
                        repeat (
                          refine lex_val (v := ?_) rfl rfl (fun w' hf => ?_) ?_
                          rotate_left
                          · obtain ⟨c0, c1, c2, c3, c4, c5, c6⟩ := seven (HKr.out.2.1.next hf.only.below0); go_simp
                            try rfl
                          try simp only [Act.put, List.setIfInBounds_toArray, List.set_cons_zero, List.set_cons_succ])
                        refine lex_call (f := 85) (args := ?_) rfl rfl (fun w' hf => ?_) (fun w' hf => ?_) ?_
                        rotate_left
                        · obtain ⟨c0, c1, c2, c3, c4, c5, c6⟩ := seven (HKr.out.2.1.next hf.only.below0); go_simp
                          try rfl
                        · obtain ⟨c0, c1, c2, c3, c4, c5, c6⟩ := seven (HKr.out.2.1.next hf.only.below0); exact HDk.out w'
                        try simp only [Act.put, List.setIfInBounds_toArray, List.set_cons_zero, List.set_cons_succ]
                        repeat (
                          refine lex_val (v := ?_) rfl rfl (fun w' hf => ?_) ?_
                          rotate_left
                          · go_simp
                            try rfl
                          try simp only [Act.put, List.setIfInBounds_toArray, List.set_cons_zero, List.set_cons_succ])
                        refine lex_alloc rfl rfl (fun w' => ?_) ?_
                        · go_simp
                        try simp only [Act.put, List.setIfInBounds_toArray, List.set_cons_zero, List.set_cons_succ]
                        refine lex_init rfl rfl rfl (fun bl w' hb hf hB => ⟨_, ?_, repl7 hB (.int .i64 na) (.int .i64 nb) (.int .i64 nc) (.int .i64 nd) (.int .i64 nl) (.int .i64 nr) (.int .i64 ns)⟩) ?_
                        · obtain ⟨z0, z1, z2, z3, z4, z5, z6⟩ := seven hB
                          obtain ⟨f0, f1, f2, f3, f4, f5, f6⟩ := seven_fr hB
                          unfold put7
                          go_simp
                        try simp only [Act.put]
                        repeat (
                          refine lex_val (v := ?_) rfl rfl (fun w' hf => ?_) ?_
                          rotate_left
                          · go_simp
                            try rfl
                          try simp only [Act.put, List.setIfInBounds_toArray, List.set_cons_zero, List.set_cons_succ])
                        refine lex_nil fun w6 he => ?_
                        obtain ⟨g2, hg2, hge2, hk2⟩ := he.facts 15
                        have HNb := Lib.hid (show Blk w6 g2 25 #[.int .i64 na, .int .i64 nb, .int .i64 nc, .int .i64 nd, .int .i64 nl, .int .i64 nr, .int .i64 ns] from hk2)
                        have HK6 := Lib.hid (HKr.out.next he.only.below0)
                        rw [hg2]
                        clear he HKr HDk hk2 hge2 hg2 h37n hcm hsw2
                        rcases ok with _ | _
                        · have hV := HY2.out.1 (HSp.out.2 rfl)
                          subst hV
                          clear HY2 HSp
                          have HKf := Lib.hid HK6.out.1
                          obtain ⟨z0, z1, z2, z3, z4, z5, z6⟩ := seven HKf.out.1
                          obtain ⟨u0, u1, u2, u3, u4, u5, u6⟩ := seven HKf.out.2.1
                          obtain ⟨f0, f1, f2, f3, f4, f5, f6⟩ := seven_fr HKf.out.2.1
                          obtain ⟨⟨e0, e1, e2, e3, e4, e5, e6⟩, hbl⟩ := KJ.res HKf.out (.int .i64 a) (.int .i64 b) (.int .i64 c) (.int .i64 d) (.int .i64 l) (.int .i64 r) (.int .i64 s)
                          unfold put7 at e0 e1 e2 e3 e4 e5 e6 hbl
                          go_wp2_with fail
                          exact bodyPost_ret (v := .tuple #[.agg #[.int .i64 a, .int .i64 b, .int .i64 c, .int .i64 d, .int .i64 l, .int .i64 r, .int .i64 s], .bool false]) (by simp [results, Tryz.results40, go_sem, e0, e1, e2, e3, e4, e5, e6]) rfl ⟨rfl, hbl⟩
                        · obtain ⟨c0, c1, c2, c3, c4, c5, c6⟩ := seven HNb.out
                          obtain ⟨d0, d1, d2, d3, d4, d5, d6⟩ := seven HK6.out.2.1
                          obtain ⟨f0, f1, f2, f3, f4, f5, f6⟩ := seven_fr HK6.out.2.1
                          have HKp := Lib.hid (KR4.put HK6.out (.int .i64 na) (.int .i64 nb) (.int .i64 nc) (.int .i64 nd) (.int .i64 nl) (.int .i64 nr) (.int .i64 ns))
                          unfold put7 at HKp
                          clear HNb
                          go_wp2_with fail
                          go_roundw
                          case rel => exact ⟨k + 1, pn, na, nb, nc, nd, nl, nr, ns, by omega, by omega, by go_num, by rw [← HB3.out, Int.tdiv_eq_ediv_of_nonneg (by omega)], by go_num, by rw [hm2]; exact HSp.out.1 rfl, HKp.out⟩
                          case measure => simp [intOf]; omega
                    · rw [if_neg h37] at hcn
                      have h37n : ((t[p].toNat : Int) == 37) = false := by
                        have : t[p].toNat ≠ 37 := fun e => h37 (UInt8.toNat_inj.1 e)
                        simp; omega
                      clear h37
                      have hcu := cut_long t p 1 hcn (by omega) (by omega)
                      have hcm : decide ((t.size : Int) - p < 1) = false := by simp; omega
                      have hsw2 : IntKind.i64.wrap ((t.size : Int) - p) = (t.size : Int) - p := IntWalk.i64_in _ (by omega)
                      have hple : p + 1 ≤ t.size := by omega
                      obtain ⟨pn, hpn⟩ : ∃ pn, pn = p + 1 := ⟨_, rfl⟩
                      have hpa : IntKind.i64.wrap ((p : Int) + 1) = (pn : Int) := by rw [IntWalk.i64_in _ (by omega)]; omega
                      rw [← hpn] at hple hcu
                      have hpl2 : p ≤ pn := by omega
                      have hpl3 : (p : Int) ≤ (pn : Int) := by omega
                      have hpl4 : (pn : Int) ≤ (t.size : Int) := by omega
                      clear hpn
                      obtain ⟨⟨⟨na, nb, nc, nd, nl, nr, ns⟩, ok⟩, hdd⟩ : ∃ q, q = desP ⟨ya, yb, yc, yd, yl, yr, ys⟩ (k : Int) (bitB sz k) (t.extract p pn) := ⟨_, rfl⟩
                      have HDk : Hid (∀ W, Calls Tryz.prog 85 #[.agg #[.int .i64 ya, .int .i64 yb, .int .i64 yc, .int .i64 yd, .int .i64 yl, .int .i64 yr, .int .i64 ys], .int .i64 k, .bool (bitB sz k), .string (t.extract p pn)] W fun e w' => e = .returned (.tuple #[.agg #[.int .i64 na, .int .i64 nb, .int .i64 nc, .int .i64 nd, .int .i64 nl, .int .i64 nr, .int .i64 ns], .bool ok]) ∧ Below W.heap.size W w') := Lib.hid (fun W => by have := HDes.out ⟨ya, yb, yc, yd, yl, yr, ys⟩ (k : Int) (bitB sz k) (t.extract p pn) W; rw [← hdd] at this; exact this)
                      have HSp := Lib.hid (run_step HRn.out hcu hdd)
                      obtain ⟨hb1, hb2, hb3⟩ := HBt.out k
                      have HB3 := Lib.hid hb3
                      clear hcu hdd hcn HRn hb3
                      have hqb : (sz - 64) / 2 ^ k < 256 := Nat.lt_of_le_of_lt (Nat.div_le_self _ _) (by omega)
                      generalize hq : (sz - 64) / 2 ^ k = q at *
                      have HQ := Lib.hid hq
                      clear hq
                      generalize bitB sz k = bt at *
                      go_upto_region 14 with fail
                      refine wp_region_mix_lit (by kernel_rfl) [(11, .call (.tuple #[.agg #[.int .i64 na, .int .i64 nb, .int .i64 nc, .int .i64 nd, .int .i64 nl, .int .i64 nr, .int .i64 ns], .bool ok])), (15, .alloc 16 25 #[.int .i64 0, .int .i64 0, .int .i64 0, .int .i64 0, .int .i64 0, .int .i64 0, .int .i64 0] (fun _ => #[.int .i64 na, .int .i64 nb, .int .i64 nc, .int .i64 nd, .int .i64 nl, .int .i64 nr, .int .i64 ns])), (16, .init 15)] (by kernel_rfl) (by kernel_rfl) (by kernel_rfl) (by rfl) (by simp [apartK] <;> omega) (by simp [startK]) (by simp [stabK]) (⟨fun _ => .pointer (some ⟨wr.heap.size, 0, none⟩), by simp [okK]⟩) (fun β hβ => ?_)
                      repeat (
                        refine lex_val (v := ?_) rfl rfl (fun w' hf => ?_) ?_
                        rotate_left
                        · obtain ⟨c0, c1, c2, c3, c4, c5, c6⟩ := seven (HKr.out.2.1.next hf.only.below0); go_simp
                          try rfl
                        try simp only [Act.put, List.setIfInBounds_toArray, List.set_cons_zero, List.set_cons_succ])
                      refine lex_call (f := 85) (args := ?_) rfl rfl (fun w' hf => ?_) (fun w' hf => ?_) ?_
                      rotate_left
                      · obtain ⟨c0, c1, c2, c3, c4, c5, c6⟩ := seven (HKr.out.2.1.next hf.only.below0); go_simp
                        try rfl
                      · obtain ⟨c0, c1, c2, c3, c4, c5, c6⟩ := seven (HKr.out.2.1.next hf.only.below0); exact HDk.out w'
                      try simp only [Act.put, List.setIfInBounds_toArray, List.set_cons_zero, List.set_cons_succ]
                      repeat (
                        refine lex_val (v := ?_) rfl rfl (fun w' hf => ?_) ?_
                        rotate_left
                        · go_simp
                          try rfl
                        try simp only [Act.put, List.setIfInBounds_toArray, List.set_cons_zero, List.set_cons_succ])
                      refine lex_alloc rfl rfl (fun w' => ?_) ?_
                      · go_simp
                      try simp only [Act.put, List.setIfInBounds_toArray, List.set_cons_zero, List.set_cons_succ]
                      refine lex_init rfl rfl rfl (fun bl w' hb hf hB => ⟨_, ?_, repl7 hB (.int .i64 na) (.int .i64 nb) (.int .i64 nc) (.int .i64 nd) (.int .i64 nl) (.int .i64 nr) (.int .i64 ns)⟩) ?_
                      · obtain ⟨z0, z1, z2, z3, z4, z5, z6⟩ := seven hB
                        obtain ⟨f0, f1, f2, f3, f4, f5, f6⟩ := seven_fr hB
                        unfold put7
                        go_simp
                      try simp only [Act.put]
                      repeat (
                        refine lex_val (v := ?_) rfl rfl (fun w' hf => ?_) ?_
                        rotate_left
                        · go_simp
                          try rfl
                        try simp only [Act.put, List.setIfInBounds_toArray, List.set_cons_zero, List.set_cons_succ])
                      refine lex_nil fun w6 he => ?_
                      obtain ⟨g2, hg2, hge2, hk2⟩ := he.facts 15
                      have HNb := Lib.hid (show Blk w6 g2 25 #[.int .i64 na, .int .i64 nb, .int .i64 nc, .int .i64 nd, .int .i64 nl, .int .i64 nr, .int .i64 ns] from hk2)
                      have HK6 := Lib.hid (HKr.out.next he.only.below0)
                      rw [hg2]
                      clear he HKr HDk hk2 hge2 hg2 h37n hcm hsw2
                      rcases ok with _ | _
                      · have hV := HY2.out.1 (HSp.out.2 rfl)
                        subst hV
                        clear HY2 HSp
                        have HKf := Lib.hid HK6.out.1
                        obtain ⟨z0, z1, z2, z3, z4, z5, z6⟩ := seven HKf.out.1
                        obtain ⟨u0, u1, u2, u3, u4, u5, u6⟩ := seven HKf.out.2.1
                        obtain ⟨f0, f1, f2, f3, f4, f5, f6⟩ := seven_fr HKf.out.2.1
                        obtain ⟨⟨e0, e1, e2, e3, e4, e5, e6⟩, hbl⟩ := KJ.res HKf.out (.int .i64 a) (.int .i64 b) (.int .i64 c) (.int .i64 d) (.int .i64 l) (.int .i64 r) (.int .i64 s)
                        unfold put7 at e0 e1 e2 e3 e4 e5 e6 hbl
                        go_wp2_with fail
                        exact bodyPost_ret (v := .tuple #[.agg #[.int .i64 a, .int .i64 b, .int .i64 c, .int .i64 d, .int .i64 l, .int .i64 r, .int .i64 s], .bool false]) (by simp [results, Tryz.results40, go_sem, e0, e1, e2, e3, e4, e5, e6]) rfl ⟨rfl, hbl⟩
                      · obtain ⟨c0, c1, c2, c3, c4, c5, c6⟩ := seven HNb.out
                        obtain ⟨d0, d1, d2, d3, d4, d5, d6⟩ := seven HK6.out.2.1
                        obtain ⟨f0, f1, f2, f3, f4, f5, f6⟩ := seven_fr HK6.out.2.1
                        have HKp := Lib.hid (KR4.put HK6.out (.int .i64 na) (.int .i64 nb) (.int .i64 nc) (.int .i64 nd) (.int .i64 nl) (.int .i64 nr) (.int .i64 ns))
                        unfold put7 at HKp
                        clear HNb
                        go_wp2_with fail
                        go_roundw
                        case rel => exact ⟨k + 1, pn, na, nb, nc, nd, nl, nr, ns, by omega, by omega, by go_num, by rw [← HB3.out, Int.tdiv_eq_ediv_of_nonneg (by omega)], by go_num, by rw [hm2]; exact HSp.out.1 rfl, HKp.out⟩
                        case measure => simp [intOf]; omega
                  · have hV := HY2.out.1 (run_short HRn.out (cut_short t p 1 (by rw [show p = t.size from by omega]; exact cutN_end t) (by omega) (by omega)))
                    have hsw2 : IntKind.i64.wrap ((t.size : Int) - p) = 0 := by rw [show (t.size : Int) - p = 0 from by omega]; rfl
                    have hcm : decide ((p : Nat) < t.size) = false := by simp; omega
                    subst hV
                    have HKf := Lib.hid HKr.out.1
                    clear HY2 HRn hm2 hp hlt2 hsz htz hsw hsb q4 q5
                    go_upto_region 13 with fail
                    obtain ⟨z0, z1, z2, z3, z4, z5, z6⟩ := seven HKf.out.1
                    obtain ⟨u0, u1, u2, u3, u4, u5, u6⟩ := seven HKf.out.2.1
                    obtain ⟨f0, f1, f2, f3, f4, f5, f6⟩ := seven_fr HKf.out.2.1
                    obtain ⟨⟨e0, e1, e2, e3, e4, e5, e6⟩, hbl⟩ := KJ.res HKf.out (.int .i64 a) (.int .i64 b) (.int .i64 c) (.int .i64 d) (.int .i64 l) (.int .i64 r) (.int .i64 s)
                    unfold put7 at e0 e1 e2 e3 e4 e5 e6 hbl
                    go_wp2_with fail
                    exact bodyPost_ret (v := .tuple #[.agg #[.int .i64 a, .int .i64 b, .int .i64 c, .int .i64 d, .int .i64 l, .int .i64 r, .int .i64 s], .bool false]) (by simp [results, Tryz.results40, go_sem, e0, e1, e2, e3, e4, e5, e6]) rfl ⟨rfl, hbl⟩
                · obtain rfl : k = 4 := by omega
                  have HEnd := Lib.hid (HY2.out.2 ⟨ya, yb, yc, yd, yl, yr, ys⟩ (t.extract p t.size) HRn.out.symm)
                  clear HY2 HRn
                  by_cases hu : p = t.size
                  · have hV := HEnd.out.2 (by simp; omega)
                    have hcm : decide ((p : Nat) < t.size) = false := by simp; omega
                    simp only [Iso.lr] at hV
                    subst hV
                    clear HEnd hk hlt hu hp hsw hsb hsz htz
                    obtain ⟨y0, y1, y2, y3, y4, y5, y6⟩ := seven HKr.out.2.1
                    obtain ⟨f0, f1, f2, f3, f4, f5, f6⟩ := seven_fr HKr.out.2.1
                    have HKs := Lib.hid (HKr.out.set2 (.int .i64 gl) (.int .i64 gr))
                    have HKf := Lib.hid HKs.out.1
                    have fz := (HKr.out.2.1.set_ 4 (.int .i64 gl)).frozen 5
                    have cz := (HKr.out.2.1.set_ 4 (.int .i64 gl)).cell 5
                    simp only [List.setIfInBounds_toArray, List.set_cons_zero, List.set_cons_succ] at cz
                    have cz2 := cz.trans (show _ = some (.int .i64 yr) from rfl)
                    clear cz
                    go_upto_region 24 with fail
                    clear y0 y1 y2 y3 y4 y5 y6 f0 f1 f2 f3 f4 f5 f6 fz cz2
                    generalize (wr.setCell ⟨g, 4, none⟩ (.int .i64 gl)).setCell ⟨g, 5, none⟩ (.int .i64 gr) = wf at *
                    obtain ⟨b0, b1, b2, b3, b4, b5, b6⟩ := seven HKs.out.2.1
                    obtain ⟨z0, z1, z2, z3, z4, z5, z6⟩ := seven HKf.out.1
                    obtain ⟨u0, u1, u2, u3, u4, u5, u6⟩ := seven HKf.out.2.1
                    obtain ⟨f0, f1, f2, f3, f4, f5, f6⟩ := seven_fr HKf.out.2.1
                    obtain ⟨⟨e0, e1, e2, e3, e4, e5, e6⟩, hbl⟩ := KJ.res HKf.out (.int .i64 ya) (.int .i64 yb) (.int .i64 yc) (.int .i64 yd) (.int .i64 gl) (.int .i64 gr) (.int .i64 ys)
                    unfold put7 at e0 e1 e2 e3 e4 e5 e6 hbl
                    go_wp2_with fail
                    exact bodyPost_ret (v := .tuple #[.agg #[.int .i64 ya, .int .i64 yb, .int .i64 yc, .int .i64 yd, .int .i64 gl, .int .i64 gr, .int .i64 ys], .bool true]) (by simp [results, Tryz.results40, go_sem, e0, e1, e2, e3, e4, e5, e6]) rfl ⟨rfl, hbl⟩
                  · have hV := HEnd.out.1 (by simp; omega)
                    have hcm : decide ((p : Nat) < t.size) = true := by simp; omega
                    subst hV
                    have HKf := Lib.hid HKr.out.1
                    clear HEnd hk hlt hu hp hsw hsb hsz htz
                    obtain ⟨z0, z1, z2, z3, z4, z5, z6⟩ := seven HKf.out.1
                    obtain ⟨u0, u1, u2, u3, u4, u5, u6⟩ := seven HKf.out.2.1
                    obtain ⟨f0, f1, f2, f3, f4, f5, f6⟩ := seven_fr HKf.out.2.1
                    obtain ⟨⟨e0, e1, e2, e3, e4, e5, e6⟩, hbl⟩ := KJ.res HKf.out (.int .i64 a) (.int .i64 b) (.int .i64 c) (.int .i64 d) (.int .i64 l) (.int .i64 r) (.int .i64 s)
                    unfold put7 at e0 e1 e2 e3 e4 e5 e6 hbl
                    go_wp2_with fail
                    exact bodyPost_ret (v := .tuple #[.agg #[.int .i64 a, .int .i64 b, .int .i64 c, .int .i64 d, .int .i64 l, .int .i64 r, .int .i64 s], .bool false]) (by simp [results, Tryz.results40, go_sem, e0, e1, e2, e3, e4, e5, e6]) rfl ⟨rfl, hbl⟩
            · have g5 : decide (79 < (sz : Int)) = true := by simp; omega
              obtain rfl := HNo.out (by unfold isoInB; simp; omega)
              clear HNo HYes q0 q1 q2 q3 q4 q5
              go_enter Tryz.func40, Tryz.ntmps40
              go_upto_region 2 with fail
              generalize (w.alloc (.cells #[.int .i64 a, .int .i64 b, .int .i64 c, .int .i64 d, .int .i64 l, .int .i64 r, .int .i64 s] 25)).alloc (.cells #[.int .i64 0, .int .i64 0, .int .i64 0, .int .i64 0, .int .i64 0, .int .i64 0, .int .i64 0] 25) = w1 at *
              obtain ⟨z0, z1, z2, z3, z4, z5, z6⟩ := seven HK.out.1
              obtain ⟨u0, u1, u2, u3, u4, u5, u6⟩ := seven HK.out.2.1
              obtain ⟨f0, f1, f2, f3, f4, f5, f6⟩ := seven_fr HK.out.2.1
              obtain ⟨⟨e0, e1, e2, e3, e4, e5, e6⟩, hbl⟩ := KJ.res HK.out (.int .i64 a) (.int .i64 b) (.int .i64 c) (.int .i64 d) (.int .i64 l) (.int .i64 r) (.int .i64 s)
              unfold put7 at e0 e1 e2 e3 e4 e5 e6 hbl
              go_wp2_with fail
              exact bodyPost_ret (v := .tuple #[.agg #[.int .i64 a, .int .i64 b, .int .i64 c, .int .i64 d, .int .i64 l, .int .i64 r, .int .i64 s], .bool false]) (by simp [results, Tryz.results40, go_sem, e0, e1, e2, e3, e4, e5, e6]) rfl ⟨rfl, hbl⟩
          · have g4 : decide ((sz : Int) < 64) = true := by simp; omega
            obtain rfl := HNo.out (by unfold isoInB; simp; omega)
            clear HNo HYes q0 q1 q2 q3 q4
            go_enter Tryz.func40, Tryz.ntmps40
            go_upto_region 2 with fail
            generalize (w.alloc (.cells #[.int .i64 a, .int .i64 b, .int .i64 c, .int .i64 d, .int .i64 l, .int .i64 r, .int .i64 s] 25)).alloc (.cells #[.int .i64 0, .int .i64 0, .int .i64 0, .int .i64 0, .int .i64 0, .int .i64 0, .int .i64 0] 25) = w1 at *
            obtain ⟨z0, z1, z2, z3, z4, z5, z6⟩ := seven HK.out.1
            obtain ⟨u0, u1, u2, u3, u4, u5, u6⟩ := seven HK.out.2.1
            obtain ⟨f0, f1, f2, f3, f4, f5, f6⟩ := seven_fr HK.out.2.1
            obtain ⟨⟨e0, e1, e2, e3, e4, e5, e6⟩, hbl⟩ := KJ.res HK.out (.int .i64 a) (.int .i64 b) (.int .i64 c) (.int .i64 d) (.int .i64 l) (.int .i64 r) (.int .i64 s)
            unfold put7 at e0 e1 e2 e3 e4 e5 e6 hbl
            go_wp2_with fail
            exact bodyPost_ret (v := .tuple #[.agg #[.int .i64 a, .int .i64 b, .int .i64 c, .int .i64 d, .int .i64 l, .int .i64 r, .int .i64 s], .bool false]) (by simp [results, Tryz.results40, go_sem, e0, e1, e2, e3, e4, e5, e6]) rfl ⟨rfl, hbl⟩
        · have g3 : decide (3 < gr) = true := by simp; omega
          obtain rfl := HNo.out (by unfold isoInB; simp; omega)
          clear HNo HYes q0 q1 q2 q3
          go_enter Tryz.func40, Tryz.ntmps40
          go_upto_region 2 with fail
          generalize (w.alloc (.cells #[.int .i64 a, .int .i64 b, .int .i64 c, .int .i64 d, .int .i64 l, .int .i64 r, .int .i64 s] 25)).alloc (.cells #[.int .i64 0, .int .i64 0, .int .i64 0, .int .i64 0, .int .i64 0, .int .i64 0, .int .i64 0] 25) = w1 at *
          obtain ⟨z0, z1, z2, z3, z4, z5, z6⟩ := seven HK.out.1
          obtain ⟨u0, u1, u2, u3, u4, u5, u6⟩ := seven HK.out.2.1
          obtain ⟨f0, f1, f2, f3, f4, f5, f6⟩ := seven_fr HK.out.2.1
          obtain ⟨⟨e0, e1, e2, e3, e4, e5, e6⟩, hbl⟩ := KJ.res HK.out (.int .i64 a) (.int .i64 b) (.int .i64 c) (.int .i64 d) (.int .i64 l) (.int .i64 r) (.int .i64 s)
          unfold put7 at e0 e1 e2 e3 e4 e5 e6 hbl
          go_wp2_with fail
          exact bodyPost_ret (v := .tuple #[.agg #[.int .i64 a, .int .i64 b, .int .i64 c, .int .i64 d, .int .i64 l, .int .i64 r, .int .i64 s], .bool false]) (by simp [results, Tryz.results40, go_sem, e0, e1, e2, e3, e4, e5, e6]) rfl ⟨rfl, hbl⟩
      · have g2 : decide (gr < 1) = true := by simp; omega
        obtain rfl := HNo.out (by unfold isoInB; simp; omega)
        clear HNo HYes q0 q1 q2
        go_enter Tryz.func40, Tryz.ntmps40
        go_upto_region 2 with fail
        generalize (w.alloc (.cells #[.int .i64 a, .int .i64 b, .int .i64 c, .int .i64 d, .int .i64 l, .int .i64 r, .int .i64 s] 25)).alloc (.cells #[.int .i64 0, .int .i64 0, .int .i64 0, .int .i64 0, .int .i64 0, .int .i64 0, .int .i64 0] 25) = w1 at *
        obtain ⟨z0, z1, z2, z3, z4, z5, z6⟩ := seven HK.out.1
        obtain ⟨u0, u1, u2, u3, u4, u5, u6⟩ := seven HK.out.2.1
        obtain ⟨f0, f1, f2, f3, f4, f5, f6⟩ := seven_fr HK.out.2.1
        obtain ⟨⟨e0, e1, e2, e3, e4, e5, e6⟩, hbl⟩ := KJ.res HK.out (.int .i64 a) (.int .i64 b) (.int .i64 c) (.int .i64 d) (.int .i64 l) (.int .i64 r) (.int .i64 s)
        unfold put7 at e0 e1 e2 e3 e4 e5 e6 hbl
        go_wp2_with fail
        exact bodyPost_ret (v := .tuple #[.agg #[.int .i64 a, .int .i64 b, .int .i64 c, .int .i64 d, .int .i64 l, .int .i64 r, .int .i64 s], .bool false]) (by simp [results, Tryz.results40, go_sem, e0, e1, e2, e3, e4, e5, e6]) rfl ⟨rfl, hbl⟩
    · have g1 : decide (3 < gl) = true := by simp; omega
      obtain rfl := HNo.out (by unfold isoInB; simp; omega)
      clear HNo HYes q0 q1
      go_enter Tryz.func40, Tryz.ntmps40
      go_upto_region 2 with fail
      generalize (w.alloc (.cells #[.int .i64 a, .int .i64 b, .int .i64 c, .int .i64 d, .int .i64 l, .int .i64 r, .int .i64 s] 25)).alloc (.cells #[.int .i64 0, .int .i64 0, .int .i64 0, .int .i64 0, .int .i64 0, .int .i64 0, .int .i64 0] 25) = w1 at *
      obtain ⟨z0, z1, z2, z3, z4, z5, z6⟩ := seven HK.out.1
      obtain ⟨u0, u1, u2, u3, u4, u5, u6⟩ := seven HK.out.2.1
      obtain ⟨f0, f1, f2, f3, f4, f5, f6⟩ := seven_fr HK.out.2.1
      obtain ⟨⟨e0, e1, e2, e3, e4, e5, e6⟩, hbl⟩ := KJ.res HK.out (.int .i64 a) (.int .i64 b) (.int .i64 c) (.int .i64 d) (.int .i64 l) (.int .i64 r) (.int .i64 s)
      unfold put7 at e0 e1 e2 e3 e4 e5 e6 hbl
      go_wp2_with fail
      exact bodyPost_ret (v := .tuple #[.agg #[.int .i64 a, .int .i64 b, .int .i64 c, .int .i64 d, .int .i64 l, .int .i64 r, .int .i64 s], .bool false]) (by simp [results, Tryz.results40, go_sem, e0, e1, e2, e3, e4, e5, e6]) rfl ⟨rfl, hbl⟩
  · have g0 : decide (gl < 0) = true := by simp; omega
    obtain rfl := HNo.out (by unfold isoInB; simp; omega)
    clear HNo HYes q0
    go_enter Tryz.func40, Tryz.ntmps40
    go_upto_region 2 with fail
    generalize (w.alloc (.cells #[.int .i64 a, .int .i64 b, .int .i64 c, .int .i64 d, .int .i64 l, .int .i64 r, .int .i64 s] 25)).alloc (.cells #[.int .i64 0, .int .i64 0, .int .i64 0, .int .i64 0, .int .i64 0, .int .i64 0, .int .i64 0] 25) = w1 at *
    obtain ⟨z0, z1, z2, z3, z4, z5, z6⟩ := seven HK.out.1
    obtain ⟨u0, u1, u2, u3, u4, u5, u6⟩ := seven HK.out.2.1
    obtain ⟨f0, f1, f2, f3, f4, f5, f6⟩ := seven_fr HK.out.2.1
    obtain ⟨⟨e0, e1, e2, e3, e4, e5, e6⟩, hbl⟩ := KJ.res HK.out (.int .i64 a) (.int .i64 b) (.int .i64 c) (.int .i64 d) (.int .i64 l) (.int .i64 r) (.int .i64 s)
    unfold put7 at e0 e1 e2 e3 e4 e5 e6 hbl
    go_wp2_with fail
    exact bodyPost_ret (v := .tuple #[.agg #[.int .i64 a, .int .i64 b, .int .i64 c, .int .i64 d, .int .i64 l, .int .i64 r, .int .i64 s], .bool false]) (by simp [results, Tryz.results40, go_sem, e0, e1, e2, e3, e4, e5, e6]) rfl ⟨rfl, hbl⟩
end Go.Proofs.YtfnamfkjbkhgeaaGreatDoor

/-
  States of sets: how the program brings back what was told.
-/
import Derived.Test.YtfnamfkjbkhgeaaGreatDoorIsoM
namespace Go.Proofs.YtfnamfkjbkhgeaaGreatDoor

open Go Go.RowKit

theorem and_bit2 : ∀ k, k < 4 → ∀ n : Nat, n < 80 → 64 ≤ n → (bits .and .u8 (n : Int) ((2 ^ k : Nat) : Int) != 0) = bitB n k := by decide +kernel
/-- What is known in its midst: the state that came in, the one to be answered, the one that is told. -/
def KR3 (w : World) (x : Array Value) (g : Nat) (y : Array Value) (W : World) : Prop := KI w x W ∧ Blk W g 38 y ∧ w.heap.size + 2 ≤ g
theorem KR3.next {w W W' : World} {x y : Array Value} {g : Nat} (h : KR3 w x g y W) (hb : Below W.heap.size W W') : KR3 w x g y W' := ⟨h.1.next hb, h.2.1.next hb, h.2.2⟩
theorem KR3.only {w W W' : World} {x y z : Array Value} {g : Nat} (h : KR3 w x g y W) (ho : Only [g] W W') (hz : Blk W' g 38 z) : KR3 w x g z W' :=
  ⟨⟨ho.blk h.1.1 (by have := h.2.2; simp; omega), ho.blk h.1.2.1 (by have := h.2.2; simp; omega), h.1.2.2.trans (ho.below h.1.2.2.size (by have := h.2.2; simp; omega))⟩, hz, h.2.2⟩
theorem KR3.bel2 {w W W' : World} {x y : Array Value} {g : Nat} (h : KR3 w x g y W) (ho : Only [g] W W') : Below w.heap.size w W' := h.1.2.2.trans (ho.below h.1.2.2.size (by have := h.2.2; simp; omega))
theorem KI.alloc {w W : World} {x : Array Value} (h : KI w x W) (o : Obj) : KI w x (W.alloc o) := ⟨h.1.alloc o, h.2.1.alloc o, h.2.2.alloc h.2.2.size o⟩
theorem KR3.bel {w W : World} {x y : Array Value} {g : Nat} (h : KR3 w x g y W) : Below w.heap.size w W := h.1.2.2
theorem toList_nil {t : ByteArray} (h : t.size = 0) : t.toList = [] := by
  rw [ByteArray.toList_eq]
  exact List.length_eq_zero_iff.1 (by rw [← size_list]; exact h)
theorem toList_ne {t : ByteArray} (h : t.size ≠ 0) : (t.toList == []) = false := by
  rw [ByteArray.toList_eq, beq_eq_false_iff_ne]
  intro e
  apply h
  rw [size_list, e]
  rfl
theorem guard_no {gl gr : Int} {sz : Nat} {x : Iso} {s : ByteArray} (h : ¬ (isoInB 0 gl = true ∧ isoInB 1 gr = true ∧ 64 ≤ sz ∧ sz ≤ 79)) : desV (restP x gl gr sz s) = .tuple #[x.val, .bool false] := by
  unfold restP
  rw [if_neg h]
  rfl
theorem rest_ways {gl gr : Int} {sz : Nat} {x : Iso} {t : ByteArray} (h1 : isoInB 0 gl = true) (h2 : isoInB 1 gr = true) (h3 : 64 ≤ sz) (h4 : sz ≤ 79) (R : Option (Iso × ByteArray)) (hR : R = runR sz 4 0 (x.lr gl gr) t) :
    (R = none → desV (restP x gl gr sz t) = .tuple #[x.val, .bool false]) ∧ (∀ y u, R = some (y, u) → (u.size ≠ 0 → desV (restP x gl gr sz t) = .tuple #[x.val, .bool false]) ∧ (u.size = 0 → desV (restP x gl gr sz t) = .tuple #[y.val, .bool true])) := by
  unfold restP
  rw [if_pos ⟨h1, h2, h3, h4⟩, ← hR]
  refine ⟨fun e => by rw [e]; rfl, fun y u e => ⟨fun h => ?_, fun h => ?_⟩⟩
  · rw [e]; simp only; rw [if_neg h]; rfl
  · rw [e]; simp only; rw [if_pos h]; rfl
theorem run_step {sz m g : Nat} {y z : Iso} {u id v : ByteArray} {R : Option (Iso × ByteArray)} {ok : Bool} (h : runR sz (m + 1) g y u = R) (hc : (id, v) = cutP u) (hd : (z, ok) = desP y g (bitB sz g) id) : (ok = true → runR sz m (g + 1) z v = R) ∧ (ok = false → R = none) := by
  have e : runR sz (m + 1) g y u = (stepR sz g y u).bind fun p => runR sz m (g + 1) p.1 p.2 := rfl
  rw [e] at h
  unfold stepR at h
  rw [← hc] at h
  simp only at h
  rw [← hd] at h
  simp only at h
  constructor
  · intro hk
    rw [if_pos hk] at h
    exact h
  · intro hk
    rw [if_neg (by rw [hk]; simp)] at h
    exact h.symm
theorem left_of {x : Iso} {g : Int} (h : isoInB 0 g = true) : leftI x g = { x with l := g } := if_pos h
theorem right_of {x : Iso} {g : Int} (h : isoInB 1 g = true) : rightI x g = { x with r := g } := if_pos h
set_option maxRecDepth 100000 in
set_option maxHeartbeats 16000000 in
theorem isoRestore_any (x : Iso) (gl gr : Int) (sz : Nat) (hsz : sz < 256) (t : ByteArray) (w : World) (ht : Faces w) (hs : Blanks w) :
    Calls Tryz.prog 82 #[x.val, .int .i64 gl, .int .i64 gr, .int .u8 sz, .string t] w fun e w' => e = .returned (desV (restP x gl gr sz t)) ∧ Below w.heap.size w w' := by
  have HT := Lib.hid ht; have HS := Lib.hid hs
  clear ht hs
  have HO := Lib.hid (fun W => isOne_any gl W)
  have HR := Lib.hid (fun W => isRight_any gr W)
  have HLf := Lib.hid (fun W => isoLeft_any x gl W)
  have HRt := Lib.hid (fun W => isoRight_any { x with l := gl } gr W)
  have HK := Lib.hid (KI.start w x.cs)
  have HNo := Lib.hid (fun h => guard_no (gl := gl) (gr := gr) (sz := sz) (x := x) (s := t) h)
  have HYes : Hid (isoInB 0 gl = true → isoInB 1 gr = true → 64 ≤ sz → sz ≤ 79 → ∀ R, R = runR sz 4 0 (x.lr gl gr) t → (R = none → desV (restP x gl gr sz t) = .tuple #[x.val, .bool false]) ∧ (∀ y u, R = some (y, u) → (u.size ≠ 0 → desV (restP x gl gr sz t) = .tuple #[x.val, .bool false]) ∧ (u.size = 0 → desV (restP x gl gr sz t) = .tuple #[y.val, .bool true]))) := Lib.hid (fun h1 h2 h3 h4 R hR => rest_ways h1 h2 h3 h4 R hR)
  have HCut := Lib.hid (fun u W => cutId_any u W)
  have HDes := Lib.hid (fun y g wide id W t s => designate_any y g wide id W t s)
  have HRun0 : Hid (∀ g y u, runR sz 0 g y u = some (y, u)) := Lib.hid (fun g y u => rfl)
  generalize desV (restP x gl gr sz t) = V at *
  obtain ⟨a, b, c, d, l, r, s⟩ := x
  unfold Iso.val Iso.cs at *
  simp only at HK HLf HRt HNo ⊢
  rcases h1 : isoInB 0 gl with _ | _
  · obtain rfl := HNo.out (by rw [h1]; simp)
    rw [h1] at HO
    clear HNo HYes h1
    go_enter Tryz.func82, Tryz.ntmps82
    go_wp2_with fail
    refine (HO.out _).mono ?_
    rintro e w1 ⟨rfl, rfl⟩
    generalize (w.alloc (.cells #[.int .i64 a, .int .i64 b, .int .i64 c, .int .i64 d, .int .i64 l, .int .i64 r, .int .i64 s] 38)).alloc (.cells #[.int .i64 0, .int .i64 0, .int .i64 0, .int .i64 0, .int .i64 0, .int .i64 0, .int .i64 0] 38) = w1 at *
    obtain ⟨z0, z1, z2, z3, z4, z5, z6⟩ := seven HK.out.1
    obtain ⟨u0, u1, u2, u3, u4, u5, u6⟩ := seven HK.out.2.1
    obtain ⟨f0, f1, f2, f3, f4, f5, f6⟩ := seven_fr HK.out.2.1
    obtain ⟨⟨e0, e1, e2, e3, e4, e5, e6⟩, hbl⟩ := KI.res HK.out (.int .i64 a) (.int .i64 b) (.int .i64 c) (.int .i64 d) (.int .i64 l) (.int .i64 r) (.int .i64 s)
    unfold put7 at e0 e1 e2 e3 e4 e5 e6 hbl
    go_wp2_with fail
    exact bodyPost_ret (v := .tuple #[.agg #[.int .i64 a, .int .i64 b, .int .i64 c, .int .i64 d, .int .i64 l, .int .i64 r, .int .i64 s], .bool false]) (by simp [results, Tryz.results82, go_sem, e0, e1, e2, e3, e4, e5, e6]) rfl ⟨rfl, hbl⟩
  · rw [h1] at HO
    rw [left_of h1] at HLf
    rcases h2 : isoInB 1 gr with _ | _
    · obtain rfl := HNo.out (by rw [h2]; simp)
      rw [h2] at HR
      clear HNo HYes h1 h2
      go_enter Tryz.func82, Tryz.ntmps82
      go_wp2_with fail
      refine (HO.out _).mono ?_
      rintro e w1 ⟨rfl, rfl⟩
      go_wp2_with fail
      refine (HR.out _).mono ?_
      rintro e w1 ⟨rfl, rfl⟩
      generalize (w.alloc (.cells #[.int .i64 a, .int .i64 b, .int .i64 c, .int .i64 d, .int .i64 l, .int .i64 r, .int .i64 s] 38)).alloc (.cells #[.int .i64 0, .int .i64 0, .int .i64 0, .int .i64 0, .int .i64 0, .int .i64 0, .int .i64 0] 38) = w1 at *
      obtain ⟨z0, z1, z2, z3, z4, z5, z6⟩ := seven HK.out.1
      obtain ⟨u0, u1, u2, u3, u4, u5, u6⟩ := seven HK.out.2.1
      obtain ⟨f0, f1, f2, f3, f4, f5, f6⟩ := seven_fr HK.out.2.1
      obtain ⟨⟨e0, e1, e2, e3, e4, e5, e6⟩, hbl⟩ := KI.res HK.out (.int .i64 a) (.int .i64 b) (.int .i64 c) (.int .i64 d) (.int .i64 l) (.int .i64 r) (.int .i64 s)
      unfold put7 at e0 e1 e2 e3 e4 e5 e6 hbl
      go_wp2_with fail
      exact bodyPost_ret (v := .tuple #[.agg #[.int .i64 a, .int .i64 b, .int .i64 c, .int .i64 d, .int .i64 l, .int .i64 r, .int .i64 s], .bool false]) (by simp [results, Tryz.results82, go_sem, e0, e1, e2, e3, e4, e5, e6]) rfl ⟨rfl, hbl⟩
    · rw [h2] at HR
      rw [right_of h2] at HRt
      by_cases h3 : 64 ≤ sz
      · have g3 : decide ((sz : Int) < 64) = false := by simp; omega
        by_cases h4 : sz ≤ 79
        · have g4 : decide (79 < (sz : Int)) = false := by simp; omega
          have HYs := Lib.hid (HYes.out h1 h2 h3 h4)
          obtain ⟨R0, hR0⟩ : ∃ R, R = runR sz 4 0 (Iso.lr ⟨a, b, c, d, l, r, s⟩ gl gr) t := ⟨_, rfl⟩
          have HY2 := Lib.hid (HYs.out R0 hR0)
          have HR0 := Lib.hid hR0.symm
          clear HYs hR0
          have HBit := Lib.hid (fun k hk => and_bit2 k hk sz (by omega) h3)

          clear HNo HYes h1 h2 h3
          go_enter Tryz.func82, Tryz.ntmps82
          go_wp2_with fail
          refine (HO.out _).mono ?_
          rintro e w1 ⟨rfl, rfl⟩
          go_wp2_with fail
          refine (HR.out _).mono ?_
          rintro e w1 ⟨rfl, rfl⟩
          have HF0 := Lib.hid (HT.out.next HK.out.2.2); have HB0 := Lib.hid (HS.out.next HK.out.2.2)
          generalize (w.alloc (.cells #[.int .i64 a, .int .i64 b, .int .i64 c, .int .i64 d, .int .i64 l, .int .i64 r, .int .i64 s] 38)).alloc (.cells #[.int .i64 0, .int .i64 0, .int .i64 0, .int .i64 0, .int .i64 0, .int .i64 0, .int .i64 0] 38) = w1 at *
          obtain ⟨c0, c1, c2, c3, c4, c5, c6⟩ := seven HK.out.1
          go_wp2_with fail
          refine (HLf.out _).mono ?_
          rintro e w2 ⟨rfl, hb2⟩
          have HK2 := Lib.hid (HK.out.next hb2); have HF2 := Lib.hid (HF0.out.next hb2); have HB2 := Lib.hid (HB0.out.next hb2)
          clear hb2 c0 c1 c2 c3 c4 c5 c6 g3 g4
          go_wp2_with fail
          refine (HRt.out _).mono ?_
          rintro e w3 ⟨rfl, hb3⟩
          have HK3 := Lib.hid (HK2.out.next hb3); have HF3 := Lib.hid (HF2.out.next hb3); have HB3 := Lib.hid (HB2.out.next hb3)
          clear hb3
          go_wp2_with fail
          have HK4 := Lib.hid (show KR3 w #[.int .i64 a, .int .i64 b, .int .i64 c, .int .i64 d, .int .i64 l, .int .i64 r, .int .i64 s] w3.heap.size #[.int .i64 a, .int .i64 b, .int .i64 c, .int .i64 d, .int .i64 gl, .int .i64 gr, .int .i64 s] (w3.alloc (.cells #[.int .i64 a, .int .i64 b, .int .i64 c, .int .i64 d, .int .i64 gl, .int .i64 gr, .int .i64 s] 38)) from ⟨KI.alloc HK3.out _, Blk.new w3 _ _, by have := Blk.lt HK3.out.2.1; omega⟩)
          clear HF0 HB0 HF2 HB2 HF3 HB3 HK HK2 HK3 HO HR HLf HRt
          generalize w3.alloc (.cells #[.int .i64 a, .int .i64 b, .int .i64 c, .int .i64 d, .int .i64 gl, .int .i64 gr, .int .i64 s] 38) = w4 at *
          generalize w3.heap.size = g at *
          go_loopw [4, 38] (fun u i wr => ∃ (k : Nat) (ya yb yc yd yl yr ys : Int) (t : ByteArray), k ≤ 4 ∧ i = .int .i64 k ∧ u = .string t ∧ runR sz (4 - k) k ⟨ya, yb, yc, yd, yl, yr, ys⟩ t = R0 ∧ KR3 w #[.int .i64 a, .int .i64 b, .int .i64 c, .int .i64 d, .int .i64 l, .int .i64 r, .int .i64 s] g #[.int .i64 ya, .int .i64 yb, .int .i64 yc, .int .i64 yd, .int .i64 yl, .int .i64 yr, .int .i64 ys] wr) (fun _ i _ => 4 - (intOf i).toNat)
          case atStart => exact ⟨0, a, b, c, d, gl, gr, s, t, by omega, rfl, rfl, HR0.out, HK4.out⟩
          case round =>
            obtain ⟨k, ya, yb, yc, yd, yl, yr, ys, u, hk, rfl, rfl, hrun, hkr⟩ := hrel
            have HRn := Lib.hid hrun; have HKr := Lib.hid hkr
            clear hrun hkr
            by_cases hlt : k < 4
            · have hks : k = 0 ∨ k = 1 ∨ k = 2 ∨ k = 3 := by omega
              clear hlt hk
              rcases hks with rfl | rfl | rfl | rfl
              · have hwr : IntKind.u8.wrap 1 = 1 := by decide +kernel
                have hand : (bits .and .u8 (sz : Int) 1 != 0) = bitB sz 0 := HBit.out 0 (by omega)
                obtain ⟨⟨id, v⟩, hcu⟩ : ∃ p, p = cutP u := ⟨_, rfl⟩
                have HCk : Hid (∀ W, Calls Tryz.prog 115 #[.string u] W fun e w' => e = .returned (.tuple #[.string id, .string v]) ∧ Below W.heap.size W w') := Lib.hid (fun W => by have := HCut.out u W; rw [← hcu] at this; exact this)
                obtain ⟨⟨⟨na, nb, nc, nd, nl, nr, ns⟩, ok⟩, hdd⟩ : ∃ p, p = desP ⟨ya, yb, yc, yd, yl, yr, ys⟩ ((0 : Nat) : Int) (bitB sz 0) id := ⟨_, rfl⟩
                have HDk : Hid (∀ W, Faces W → Blanks W → Calls Tryz.prog 116 #[.agg #[.int .i64 ya, .int .i64 yb, .int .i64 yc, .int .i64 yd, .int .i64 yl, .int .i64 yr, .int .i64 ys], .int .i64 0, .bool (bitB sz 0), .string id] W fun e w' => e = .returned (.tuple #[.agg #[.int .i64 na, .int .i64 nb, .int .i64 nc, .int .i64 nd, .int .i64 nl, .int .i64 nr, .int .i64 ns], .bool ok]) ∧ Below W.heap.size W w') := Lib.hid (fun W t s => by have := HDes.out ⟨ya, yb, yc, yd, yl, yr, ys⟩ ((0 : Nat) : Int) (bitB sz 0) id W t s; rw [← hdd] at this; exact this)
                have HSp := Lib.hid (run_step (m := 3) HRn.out hcu hdd)
                clear hcu hdd
                generalize bitB sz 0 = bt at *
                go_wp2_with fail
                refine (HCk.out _).mono ?_
                rintro e w5 ⟨rfl, hb5⟩
                have HK5 := Lib.hid (HKr.out.next hb5)
                clear hb5
                go_wp2_with fail
                refine wp_region_mix_lit (by kernel_rfl) [(8, .call (.tuple #[.agg #[.int .i64 na, .int .i64 nb, .int .i64 nc, .int .i64 nd, .int .i64 nl, .int .i64 nr, .int .i64 ns], .bool ok])), (12, .store g 38 #[.int .i64 ya, .int .i64 yb, .int .i64 yc, .int .i64 yd, .int .i64 yl, .int .i64 yr, .int .i64 ys] (fun _ => #[.int .i64 na, .int .i64 nb, .int .i64 nc, .int .i64 nd, .int .i64 nl, .int .i64 nr, .int .i64 ns]))] (by kernel_rfl) (by kernel_rfl) (by kernel_rfl) (by rfl) (by simp [apartK] <;> omega) (by simp [startK]; exact HK5.out.2.1) (by simp [stabK]) (⟨fun _ => undef, by simp [okK]⟩) (fun β hβ => ?_)
                repeat (
                  refine lex_val (v := ?_) rfl rfl (fun w' hf => ?_) ?_
                  rotate_left
                  · obtain ⟨c0, c1, c2, c3, c4, c5, c6⟩ := seven (hf.old 12 _ _ _ _ rfl (by kernel_rfl)); go_simp
                    try rfl
                  try simp only [Act.put, List.setIfInBounds_toArray, List.set_cons_zero, List.set_cons_succ])
                refine lex_call (f := 116) (args := ?_) rfl rfl (fun w' hf => ?_) (fun w' hf => ?_) ?_
                rotate_left
                · obtain ⟨c0, c1, c2, c3, c4, c5, c6⟩ := seven (hf.old 12 _ _ _ _ rfl (by kernel_rfl)); go_simp
                  try rfl
                · obtain ⟨c0, c1, c2, c3, c4, c5, c6⟩ := seven (hf.old 12 _ _ _ _ rfl (by kernel_rfl)); exact HDk.out w' (HT.out.next (HK5.out.bel2 hf.only)) (HS.out.next (HK5.out.bel2 hf.only))
                try simp only [Act.put, List.setIfInBounds_toArray, List.set_cons_zero, List.set_cons_succ]
                repeat (
                  refine lex_val (v := ?_) rfl rfl (fun w' hf => ?_) ?_
                  rotate_left
                  · go_simp
                    try rfl
                  try simp only [Act.put, List.setIfInBounds_toArray, List.set_cons_zero, List.set_cons_succ])
                refine lex_store rfl rfl (fun w' hf hB => ⟨_, ?_, repl7 hB (.int .i64 na) (.int .i64 nb) (.int .i64 nc) (.int .i64 nd) (.int .i64 nl) (.int .i64 nr) (.int .i64 ns)⟩) ?_
                · obtain ⟨z0, z1, z2, z3, z4, z5, z6⟩ := seven hB
                  obtain ⟨f0, f1, f2, f3, f4, f5, f6⟩ := seven_fr hB
                  unfold put7
                  go_simp
                try simp only [Act.put]
                repeat (
                  refine lex_val (v := ?_) rfl rfl (fun w' hf => ?_) ?_
                  rotate_left
                  · go_simp
                    try rfl
                  try simp only [Act.put, List.setIfInBounds_toArray, List.set_cons_zero, List.set_cons_succ])
                refine lex_nil fun w6 he => ?_
                have HK6 := Lib.hid (KR3.only HK5.out he.only (he.facts 12))
                clear he HK5 HKr hand hwr HDk HCk
                rcases ok with _ | _
                · have hV := HY2.out.1 (HSp.out.2 rfl)
                  subst hV
                  clear HY2 HSp HRn
                  have HKf := Lib.hid HK6.out.1
                  obtain ⟨z0, z1, z2, z3, z4, z5, z6⟩ := seven HKf.out.1
                  obtain ⟨u0, u1, u2, u3, u4, u5, u6⟩ := seven HKf.out.2.1
                  obtain ⟨f0, f1, f2, f3, f4, f5, f6⟩ := seven_fr HKf.out.2.1
                  obtain ⟨⟨e0, e1, e2, e3, e4, e5, e6⟩, hbl⟩ := KI.res HKf.out (.int .i64 a) (.int .i64 b) (.int .i64 c) (.int .i64 d) (.int .i64 l) (.int .i64 r) (.int .i64 s)
                  unfold put7 at e0 e1 e2 e3 e4 e5 e6 hbl
                  go_wp2_with fail
                  exact bodyPost_ret (v := .tuple #[.agg #[.int .i64 a, .int .i64 b, .int .i64 c, .int .i64 d, .int .i64 l, .int .i64 r, .int .i64 s], .bool false]) (by simp [results, Tryz.results82, go_sem, e0, e1, e2, e3, e4, e5, e6]) rfl ⟨rfl, hbl⟩
                · go_wp2_with fail
                  go_roundw
                  case rel => exact ⟨1, na, nb, nc, nd, nl, nr, ns, v, by omega, rfl, rfl, HSp.out.1 rfl, HK6.out⟩
                  case measure => simp [intOf]
              · have hwr : IntKind.u8.wrap 2 = 2 := by decide +kernel
                have hand : (bits .and .u8 (sz : Int) 2 != 0) = bitB sz 1 := HBit.out 1 (by omega)
                obtain ⟨⟨id, v⟩, hcu⟩ : ∃ p, p = cutP u := ⟨_, rfl⟩
                have HCk : Hid (∀ W, Calls Tryz.prog 115 #[.string u] W fun e w' => e = .returned (.tuple #[.string id, .string v]) ∧ Below W.heap.size W w') := Lib.hid (fun W => by have := HCut.out u W; rw [← hcu] at this; exact this)
                obtain ⟨⟨⟨na, nb, nc, nd, nl, nr, ns⟩, ok⟩, hdd⟩ : ∃ p, p = desP ⟨ya, yb, yc, yd, yl, yr, ys⟩ ((1 : Nat) : Int) (bitB sz 1) id := ⟨_, rfl⟩
                have HDk : Hid (∀ W, Faces W → Blanks W → Calls Tryz.prog 116 #[.agg #[.int .i64 ya, .int .i64 yb, .int .i64 yc, .int .i64 yd, .int .i64 yl, .int .i64 yr, .int .i64 ys], .int .i64 1, .bool (bitB sz 1), .string id] W fun e w' => e = .returned (.tuple #[.agg #[.int .i64 na, .int .i64 nb, .int .i64 nc, .int .i64 nd, .int .i64 nl, .int .i64 nr, .int .i64 ns], .bool ok]) ∧ Below W.heap.size W w') := Lib.hid (fun W t s => by have := HDes.out ⟨ya, yb, yc, yd, yl, yr, ys⟩ ((1 : Nat) : Int) (bitB sz 1) id W t s; rw [← hdd] at this; exact this)
                have HSp := Lib.hid (run_step (m := 2) HRn.out hcu hdd)
                clear hcu hdd
                generalize bitB sz 1 = bt at *
                go_wp2_with fail
                refine (HCk.out _).mono ?_
                rintro e w5 ⟨rfl, hb5⟩
                have HK5 := Lib.hid (HKr.out.next hb5)
                clear hb5
                go_wp2_with fail
                refine wp_region_mix_lit (by kernel_rfl) [(8, .call (.tuple #[.agg #[.int .i64 na, .int .i64 nb, .int .i64 nc, .int .i64 nd, .int .i64 nl, .int .i64 nr, .int .i64 ns], .bool ok])), (12, .store g 38 #[.int .i64 ya, .int .i64 yb, .int .i64 yc, .int .i64 yd, .int .i64 yl, .int .i64 yr, .int .i64 ys] (fun _ => #[.int .i64 na, .int .i64 nb, .int .i64 nc, .int .i64 nd, .int .i64 nl, .int .i64 nr, .int .i64 ns]))] (by kernel_rfl) (by kernel_rfl) (by kernel_rfl) (by rfl) (by simp [apartK] <;> omega) (by simp [startK]; exact HK5.out.2.1) (by simp [stabK]) (⟨fun _ => undef, by simp [okK]⟩) (fun β hβ => ?_)
                repeat (
                  refine lex_val (v := ?_) rfl rfl (fun w' hf => ?_) ?_
                  rotate_left
                  · obtain ⟨c0, c1, c2, c3, c4, c5, c6⟩ := seven (hf.old 12 _ _ _ _ rfl (by kernel_rfl)); go_simp
                    try rfl
                  try simp only [Act.put, List.setIfInBounds_toArray, List.set_cons_zero, List.set_cons_succ])
                refine lex_call (f := 116) (args := ?_) rfl rfl (fun w' hf => ?_) (fun w' hf => ?_) ?_
                rotate_left
                · obtain ⟨c0, c1, c2, c3, c4, c5, c6⟩ := seven (hf.old 12 _ _ _ _ rfl (by kernel_rfl)); go_simp
                  try rfl
                · obtain ⟨c0, c1, c2, c3, c4, c5, c6⟩ := seven (hf.old 12 _ _ _ _ rfl (by kernel_rfl)); exact HDk.out w' (HT.out.next (HK5.out.bel2 hf.only)) (HS.out.next (HK5.out.bel2 hf.only))
                try simp only [Act.put, List.setIfInBounds_toArray, List.set_cons_zero, List.set_cons_succ]
                repeat (
                  refine lex_val (v := ?_) rfl rfl (fun w' hf => ?_) ?_
                  rotate_left
                  · go_simp
                    try rfl
                  try simp only [Act.put, List.setIfInBounds_toArray, List.set_cons_zero, List.set_cons_succ])
                refine lex_store rfl rfl (fun w' hf hB => ⟨_, ?_, repl7 hB (.int .i64 na) (.int .i64 nb) (.int .i64 nc) (.int .i64 nd) (.int .i64 nl) (.int .i64 nr) (.int .i64 ns)⟩) ?_
                · obtain ⟨z0, z1, z2, z3, z4, z5, z6⟩ := seven hB
                  obtain ⟨f0, f1, f2, f3, f4, f5, f6⟩ := seven_fr hB
                  unfold put7
                  go_simp
                try simp only [Act.put]
                repeat (
                  refine lex_val (v := ?_) rfl rfl (fun w' hf => ?_) ?_
                  rotate_left
                  · go_simp
                    try rfl
                  try simp only [Act.put, List.setIfInBounds_toArray, List.set_cons_zero, List.set_cons_succ])
                refine lex_nil fun w6 he => ?_
                have HK6 := Lib.hid (KR3.only HK5.out he.only (he.facts 12))
                clear he HK5 HKr hand hwr HDk HCk
                rcases ok with _ | _
                · have hV := HY2.out.1 (HSp.out.2 rfl)
                  subst hV
                  clear HY2 HSp HRn
                  have HKf := Lib.hid HK6.out.1
                  obtain ⟨z0, z1, z2, z3, z4, z5, z6⟩ := seven HKf.out.1
                  obtain ⟨u0, u1, u2, u3, u4, u5, u6⟩ := seven HKf.out.2.1
                  obtain ⟨f0, f1, f2, f3, f4, f5, f6⟩ := seven_fr HKf.out.2.1
                  obtain ⟨⟨e0, e1, e2, e3, e4, e5, e6⟩, hbl⟩ := KI.res HKf.out (.int .i64 a) (.int .i64 b) (.int .i64 c) (.int .i64 d) (.int .i64 l) (.int .i64 r) (.int .i64 s)
                  unfold put7 at e0 e1 e2 e3 e4 e5 e6 hbl
                  go_wp2_with fail
                  exact bodyPost_ret (v := .tuple #[.agg #[.int .i64 a, .int .i64 b, .int .i64 c, .int .i64 d, .int .i64 l, .int .i64 r, .int .i64 s], .bool false]) (by simp [results, Tryz.results82, go_sem, e0, e1, e2, e3, e4, e5, e6]) rfl ⟨rfl, hbl⟩
                · go_wp2_with fail
                  go_roundw
                  case rel => exact ⟨2, na, nb, nc, nd, nl, nr, ns, v, by omega, rfl, rfl, HSp.out.1 rfl, HK6.out⟩
                  case measure => simp [intOf]
              · have hwr : IntKind.u8.wrap 4 = 4 := by decide +kernel
                have hand : (bits .and .u8 (sz : Int) 4 != 0) = bitB sz 2 := HBit.out 2 (by omega)
                obtain ⟨⟨id, v⟩, hcu⟩ : ∃ p, p = cutP u := ⟨_, rfl⟩
                have HCk : Hid (∀ W, Calls Tryz.prog 115 #[.string u] W fun e w' => e = .returned (.tuple #[.string id, .string v]) ∧ Below W.heap.size W w') := Lib.hid (fun W => by have := HCut.out u W; rw [← hcu] at this; exact this)
                obtain ⟨⟨⟨na, nb, nc, nd, nl, nr, ns⟩, ok⟩, hdd⟩ : ∃ p, p = desP ⟨ya, yb, yc, yd, yl, yr, ys⟩ ((2 : Nat) : Int) (bitB sz 2) id := ⟨_, rfl⟩
                have HDk : Hid (∀ W, Faces W → Blanks W → Calls Tryz.prog 116 #[.agg #[.int .i64 ya, .int .i64 yb, .int .i64 yc, .int .i64 yd, .int .i64 yl, .int .i64 yr, .int .i64 ys], .int .i64 2, .bool (bitB sz 2), .string id] W fun e w' => e = .returned (.tuple #[.agg #[.int .i64 na, .int .i64 nb, .int .i64 nc, .int .i64 nd, .int .i64 nl, .int .i64 nr, .int .i64 ns], .bool ok]) ∧ Below W.heap.size W w') := Lib.hid (fun W t s => by have := HDes.out ⟨ya, yb, yc, yd, yl, yr, ys⟩ ((2 : Nat) : Int) (bitB sz 2) id W t s; rw [← hdd] at this; exact this)
                have HSp := Lib.hid (run_step (m := 1) HRn.out hcu hdd)
                clear hcu hdd
                generalize bitB sz 2 = bt at *
                go_wp2_with fail
                refine (HCk.out _).mono ?_
                rintro e w5 ⟨rfl, hb5⟩
                have HK5 := Lib.hid (HKr.out.next hb5)
                clear hb5
                go_wp2_with fail
                refine wp_region_mix_lit (by kernel_rfl) [(8, .call (.tuple #[.agg #[.int .i64 na, .int .i64 nb, .int .i64 nc, .int .i64 nd, .int .i64 nl, .int .i64 nr, .int .i64 ns], .bool ok])), (12, .store g 38 #[.int .i64 ya, .int .i64 yb, .int .i64 yc, .int .i64 yd, .int .i64 yl, .int .i64 yr, .int .i64 ys] (fun _ => #[.int .i64 na, .int .i64 nb, .int .i64 nc, .int .i64 nd, .int .i64 nl, .int .i64 nr, .int .i64 ns]))] (by kernel_rfl) (by kernel_rfl) (by kernel_rfl) (by rfl) (by simp [apartK] <;> omega) (by simp [startK]; exact HK5.out.2.1) (by simp [stabK]) (⟨fun _ => undef, by simp [okK]⟩) (fun β hβ => ?_)
                repeat (
                  refine lex_val (v := ?_) rfl rfl (fun w' hf => ?_) ?_
                  rotate_left
                  · obtain ⟨c0, c1, c2, c3, c4, c5, c6⟩ := seven (hf.old 12 _ _ _ _ rfl (by kernel_rfl)); go_simp
                    try rfl
                  try simp only [Act.put, List.setIfInBounds_toArray, List.set_cons_zero, List.set_cons_succ])
                refine lex_call (f := 116) (args := ?_) rfl rfl (fun w' hf => ?_) (fun w' hf => ?_) ?_
                rotate_left
                · obtain ⟨c0, c1, c2, c3, c4, c5, c6⟩ := seven (hf.old 12 _ _ _ _ rfl (by kernel_rfl)); go_simp
                  try rfl
                · obtain ⟨c0, c1, c2, c3, c4, c5, c6⟩ := seven (hf.old 12 _ _ _ _ rfl (by kernel_rfl)); exact HDk.out w' (HT.out.next (HK5.out.bel2 hf.only)) (HS.out.next (HK5.out.bel2 hf.only))
                try simp only [Act.put, List.setIfInBounds_toArray, List.set_cons_zero, List.set_cons_succ]
                repeat (
                  refine lex_val (v := ?_) rfl rfl (fun w' hf => ?_) ?_
                  rotate_left
                  · go_simp
                    try rfl
                  try simp only [Act.put, List.setIfInBounds_toArray, List.set_cons_zero, List.set_cons_succ])
                refine lex_store rfl rfl (fun w' hf hB => ⟨_, ?_, repl7 hB (.int .i64 na) (.int .i64 nb) (.int .i64 nc) (.int .i64 nd) (.int .i64 nl) (.int .i64 nr) (.int .i64 ns)⟩) ?_
                · obtain ⟨z0, z1, z2, z3, z4, z5, z6⟩ := seven hB
                  obtain ⟨f0, f1, f2, f3, f4, f5, f6⟩ := seven_fr hB
                  unfold put7
                  go_simp
                try simp only [Act.put]
                repeat (
                  refine lex_val (v := ?_) rfl rfl (fun w' hf => ?_) ?_
                  rotate_left
                  · go_simp
                    try rfl
                  try simp only [Act.put, List.setIfInBounds_toArray, List.set_cons_zero, List.set_cons_succ])
                refine lex_nil fun w6 he => ?_
                have HK6 := Lib.hid (KR3.only HK5.out he.only (he.facts 12))
                clear he HK5 HKr hand hwr HDk HCk
                rcases ok with _ | _
                · have hV := HY2.out.1 (HSp.out.2 rfl)
                  subst hV
                  clear HY2 HSp HRn
                  have HKf := Lib.hid HK6.out.1
                  obtain ⟨z0, z1, z2, z3, z4, z5, z6⟩ := seven HKf.out.1
                  obtain ⟨u0, u1, u2, u3, u4, u5, u6⟩ := seven HKf.out.2.1
                  obtain ⟨f0, f1, f2, f3, f4, f5, f6⟩ := seven_fr HKf.out.2.1
                  obtain ⟨⟨e0, e1, e2, e3, e4, e5, e6⟩, hbl⟩ := KI.res HKf.out (.int .i64 a) (.int .i64 b) (.int .i64 c) (.int .i64 d) (.int .i64 l) (.int .i64 r) (.int .i64 s)
                  unfold put7 at e0 e1 e2 e3 e4 e5 e6 hbl
                  go_wp2_with fail
                  exact bodyPost_ret (v := .tuple #[.agg #[.int .i64 a, .int .i64 b, .int .i64 c, .int .i64 d, .int .i64 l, .int .i64 r, .int .i64 s], .bool false]) (by simp [results, Tryz.results82, go_sem, e0, e1, e2, e3, e4, e5, e6]) rfl ⟨rfl, hbl⟩
                · go_wp2_with fail
                  go_roundw
                  case rel => exact ⟨3, na, nb, nc, nd, nl, nr, ns, v, by omega, rfl, rfl, HSp.out.1 rfl, HK6.out⟩
                  case measure => simp [intOf]
              · have hwr : IntKind.u8.wrap 8 = 8 := by decide +kernel
                have hand : (bits .and .u8 (sz : Int) 8 != 0) = bitB sz 3 := HBit.out 3 (by omega)
                obtain ⟨⟨id, v⟩, hcu⟩ : ∃ p, p = cutP u := ⟨_, rfl⟩
                have HCk : Hid (∀ W, Calls Tryz.prog 115 #[.string u] W fun e w' => e = .returned (.tuple #[.string id, .string v]) ∧ Below W.heap.size W w') := Lib.hid (fun W => by have := HCut.out u W; rw [← hcu] at this; exact this)
                obtain ⟨⟨⟨na, nb, nc, nd, nl, nr, ns⟩, ok⟩, hdd⟩ : ∃ p, p = desP ⟨ya, yb, yc, yd, yl, yr, ys⟩ ((3 : Nat) : Int) (bitB sz 3) id := ⟨_, rfl⟩
                have HDk : Hid (∀ W, Faces W → Blanks W → Calls Tryz.prog 116 #[.agg #[.int .i64 ya, .int .i64 yb, .int .i64 yc, .int .i64 yd, .int .i64 yl, .int .i64 yr, .int .i64 ys], .int .i64 3, .bool (bitB sz 3), .string id] W fun e w' => e = .returned (.tuple #[.agg #[.int .i64 na, .int .i64 nb, .int .i64 nc, .int .i64 nd, .int .i64 nl, .int .i64 nr, .int .i64 ns], .bool ok]) ∧ Below W.heap.size W w') := Lib.hid (fun W t s => by have := HDes.out ⟨ya, yb, yc, yd, yl, yr, ys⟩ ((3 : Nat) : Int) (bitB sz 3) id W t s; rw [← hdd] at this; exact this)
                have HSp := Lib.hid (run_step (m := 0) HRn.out hcu hdd)
                clear hcu hdd
                generalize bitB sz 3 = bt at *
                go_wp2_with fail
                refine (HCk.out _).mono ?_
                rintro e w5 ⟨rfl, hb5⟩
                have HK5 := Lib.hid (HKr.out.next hb5)
                clear hb5
                go_wp2_with fail
                refine wp_region_mix_lit (by kernel_rfl) [(8, .call (.tuple #[.agg #[.int .i64 na, .int .i64 nb, .int .i64 nc, .int .i64 nd, .int .i64 nl, .int .i64 nr, .int .i64 ns], .bool ok])), (12, .store g 38 #[.int .i64 ya, .int .i64 yb, .int .i64 yc, .int .i64 yd, .int .i64 yl, .int .i64 yr, .int .i64 ys] (fun _ => #[.int .i64 na, .int .i64 nb, .int .i64 nc, .int .i64 nd, .int .i64 nl, .int .i64 nr, .int .i64 ns]))] (by kernel_rfl) (by kernel_rfl) (by kernel_rfl) (by rfl) (by simp [apartK] <;> omega) (by simp [startK]; exact HK5.out.2.1) (by simp [stabK]) (⟨fun _ => undef, by simp [okK]⟩) (fun β hβ => ?_)
                repeat (
                  refine lex_val (v := ?_) rfl rfl (fun w' hf => ?_) ?_
                  rotate_left
                  · obtain ⟨c0, c1, c2, c3, c4, c5, c6⟩ := seven (hf.old 12 _ _ _ _ rfl (by kernel_rfl)); go_simp
                    try rfl
                  try simp only [Act.put, List.setIfInBounds_toArray, List.set_cons_zero, List.set_cons_succ])
                refine lex_call (f := 116) (args := ?_) rfl rfl (fun w' hf => ?_) (fun w' hf => ?_) ?_
                rotate_left
                · obtain ⟨c0, c1, c2, c3, c4, c5, c6⟩ := seven (hf.old 12 _ _ _ _ rfl (by kernel_rfl)); go_simp
                  try rfl
                · obtain ⟨c0, c1, c2, c3, c4, c5, c6⟩ := seven (hf.old 12 _ _ _ _ rfl (by kernel_rfl)); exact HDk.out w' (HT.out.next (HK5.out.bel2 hf.only)) (HS.out.next (HK5.out.bel2 hf.only))
                try simp only [Act.put, List.setIfInBounds_toArray, List.set_cons_zero, List.set_cons_succ]
                repeat (
                  refine lex_val (v := ?_) rfl rfl (fun w' hf => ?_) ?_
                  rotate_left
                  · go_simp
                    try rfl
                  try simp only [Act.put, List.setIfInBounds_toArray, List.set_cons_zero, List.set_cons_succ])
                refine lex_store rfl rfl (fun w' hf hB => ⟨_, ?_, repl7 hB (.int .i64 na) (.int .i64 nb) (.int .i64 nc) (.int .i64 nd) (.int .i64 nl) (.int .i64 nr) (.int .i64 ns)⟩) ?_
                · obtain ⟨z0, z1, z2, z3, z4, z5, z6⟩ := seven hB
                  obtain ⟨f0, f1, f2, f3, f4, f5, f6⟩ := seven_fr hB
                  unfold put7
                  go_simp
                try simp only [Act.put]
                repeat (
                  refine lex_val (v := ?_) rfl rfl (fun w' hf => ?_) ?_
                  rotate_left
                  · go_simp
                    try rfl
                  try simp only [Act.put, List.setIfInBounds_toArray, List.set_cons_zero, List.set_cons_succ])
                refine lex_nil fun w6 he => ?_
                have HK6 := Lib.hid (KR3.only HK5.out he.only (he.facts 12))
                clear he HK5 HKr hand hwr HDk HCk
                rcases ok with _ | _
                · have hV := HY2.out.1 (HSp.out.2 rfl)
                  subst hV
                  clear HY2 HSp HRn
                  have HKf := Lib.hid HK6.out.1
                  obtain ⟨z0, z1, z2, z3, z4, z5, z6⟩ := seven HKf.out.1
                  obtain ⟨u0, u1, u2, u3, u4, u5, u6⟩ := seven HKf.out.2.1
                  obtain ⟨f0, f1, f2, f3, f4, f5, f6⟩ := seven_fr HKf.out.2.1
                  obtain ⟨⟨e0, e1, e2, e3, e4, e5, e6⟩, hbl⟩ := KI.res HKf.out (.int .i64 a) (.int .i64 b) (.int .i64 c) (.int .i64 d) (.int .i64 l) (.int .i64 r) (.int .i64 s)
                  unfold put7 at e0 e1 e2 e3 e4 e5 e6 hbl
                  go_wp2_with fail
                  exact bodyPost_ret (v := .tuple #[.agg #[.int .i64 a, .int .i64 b, .int .i64 c, .int .i64 d, .int .i64 l, .int .i64 r, .int .i64 s], .bool false]) (by simp [results, Tryz.results82, go_sem, e0, e1, e2, e3, e4, e5, e6]) rfl ⟨rfl, hbl⟩
                · go_wp2_with fail
                  go_roundw
                  case rel => exact ⟨4, na, nb, nc, nd, nl, nr, ns, v, by omega, rfl, rfl, HSp.out.1 rfl, HK6.out⟩
                  case measure => simp [intOf]
            · obtain rfl : k = 4 := by omega
              have HEnd := Lib.hid (HY2.out.2 ⟨ya, yb, yc, yd, yl, yr, ys⟩ u HRn.out.symm)
              clear HY2 HRn
              obtain ⟨y0, y1, y2, y3, y4, y5, y6⟩ := seven HKr.out.2.1
              have HKf := Lib.hid HKr.out.1
              by_cases hu : u.size = 0
              · have hV := HEnd.out.2 hu
                subst hV
                have hnil := toList_nil hu
                clear HEnd hu hk hlt
                obtain ⟨z0, z1, z2, z3, z4, z5, z6⟩ := seven HKf.out.1
                obtain ⟨u0, u1, u2, u3, u4, u5, u6⟩ := seven HKf.out.2.1
                obtain ⟨f0, f1, f2, f3, f4, f5, f6⟩ := seven_fr HKf.out.2.1
                obtain ⟨⟨e0, e1, e2, e3, e4, e5, e6⟩, hbl⟩ := KI.res HKf.out (.int .i64 ya) (.int .i64 yb) (.int .i64 yc) (.int .i64 yd) (.int .i64 yl) (.int .i64 yr) (.int .i64 ys)
                unfold put7 at e0 e1 e2 e3 e4 e5 e6 hbl
                go_wp2_with fail
                exact bodyPost_ret (v := .tuple #[.agg #[.int .i64 ya, .int .i64 yb, .int .i64 yc, .int .i64 yd, .int .i64 yl, .int .i64 yr, .int .i64 ys], .bool true]) (by simp [results, Tryz.results82, go_sem, e0, e1, e2, e3, e4, e5, e6]) rfl ⟨rfl, hbl⟩
              · have hV := HEnd.out.1 hu
                subst hV
                have hnil := toList_ne hu
                clear HEnd hu hk hlt y0 y1 y2 y3 y4 y5 y6
                obtain ⟨z0, z1, z2, z3, z4, z5, z6⟩ := seven HKf.out.1
                obtain ⟨u0, u1, u2, u3, u4, u5, u6⟩ := seven HKf.out.2.1
                obtain ⟨f0, f1, f2, f3, f4, f5, f6⟩ := seven_fr HKf.out.2.1
                obtain ⟨⟨e0, e1, e2, e3, e4, e5, e6⟩, hbl⟩ := KI.res HKf.out (.int .i64 a) (.int .i64 b) (.int .i64 c) (.int .i64 d) (.int .i64 l) (.int .i64 r) (.int .i64 s)
                unfold put7 at e0 e1 e2 e3 e4 e5 e6 hbl
                go_wp2_with fail
                exact bodyPost_ret (v := .tuple #[.agg #[.int .i64 a, .int .i64 b, .int .i64 c, .int .i64 d, .int .i64 l, .int .i64 r, .int .i64 s], .bool false]) (by simp [results, Tryz.results82, go_sem, e0, e1, e2, e3, e4, e5, e6]) rfl ⟨rfl, hbl⟩
        · obtain rfl := HNo.out (by rintro ⟨_, _, _, h⟩; exact h4 h)
          have g4 : decide (79 < (sz : Int)) = true := by simp; omega
          clear HNo HYes h1 h2 h3 h4
          go_enter Tryz.func82, Tryz.ntmps82
          go_wp2_with fail
          refine (HO.out _).mono ?_
          rintro e w1 ⟨rfl, rfl⟩
          go_wp2_with fail
          refine (HR.out _).mono ?_
          rintro e w1 ⟨rfl, rfl⟩
          generalize (w.alloc (.cells #[.int .i64 a, .int .i64 b, .int .i64 c, .int .i64 d, .int .i64 l, .int .i64 r, .int .i64 s] 38)).alloc (.cells #[.int .i64 0, .int .i64 0, .int .i64 0, .int .i64 0, .int .i64 0, .int .i64 0, .int .i64 0] 38) = w1 at *
          obtain ⟨z0, z1, z2, z3, z4, z5, z6⟩ := seven HK.out.1
          obtain ⟨u0, u1, u2, u3, u4, u5, u6⟩ := seven HK.out.2.1
          obtain ⟨f0, f1, f2, f3, f4, f5, f6⟩ := seven_fr HK.out.2.1
          obtain ⟨⟨e0, e1, e2, e3, e4, e5, e6⟩, hbl⟩ := KI.res HK.out (.int .i64 a) (.int .i64 b) (.int .i64 c) (.int .i64 d) (.int .i64 l) (.int .i64 r) (.int .i64 s)
          unfold put7 at e0 e1 e2 e3 e4 e5 e6 hbl
          go_wp2_with fail
          exact bodyPost_ret (v := .tuple #[.agg #[.int .i64 a, .int .i64 b, .int .i64 c, .int .i64 d, .int .i64 l, .int .i64 r, .int .i64 s], .bool false]) (by simp [results, Tryz.results82, go_sem, e0, e1, e2, e3, e4, e5, e6]) rfl ⟨rfl, hbl⟩
      · obtain rfl := HNo.out (by rintro ⟨_, _, h, _⟩; exact h3 h)
        have g3 : decide ((sz : Int) < 64) = true := by simp; omega
        clear HNo HYes h1 h2 h3
        go_enter Tryz.func82, Tryz.ntmps82
        go_wp2_with fail
        refine (HO.out _).mono ?_
        rintro e w1 ⟨rfl, rfl⟩
        go_wp2_with fail
        refine (HR.out _).mono ?_
        rintro e w1 ⟨rfl, rfl⟩
        generalize (w.alloc (.cells #[.int .i64 a, .int .i64 b, .int .i64 c, .int .i64 d, .int .i64 l, .int .i64 r, .int .i64 s] 38)).alloc (.cells #[.int .i64 0, .int .i64 0, .int .i64 0, .int .i64 0, .int .i64 0, .int .i64 0, .int .i64 0] 38) = w1 at *
        obtain ⟨z0, z1, z2, z3, z4, z5, z6⟩ := seven HK.out.1
        obtain ⟨u0, u1, u2, u3, u4, u5, u6⟩ := seven HK.out.2.1
        obtain ⟨f0, f1, f2, f3, f4, f5, f6⟩ := seven_fr HK.out.2.1
        obtain ⟨⟨e0, e1, e2, e3, e4, e5, e6⟩, hbl⟩ := KI.res HK.out (.int .i64 a) (.int .i64 b) (.int .i64 c) (.int .i64 d) (.int .i64 l) (.int .i64 r) (.int .i64 s)
        unfold put7 at e0 e1 e2 e3 e4 e5 e6 hbl
        go_wp2_with fail
        exact bodyPost_ret (v := .tuple #[.agg #[.int .i64 a, .int .i64 b, .int .i64 c, .int .i64 d, .int .i64 l, .int .i64 r, .int .i64 s], .bool false]) (by simp [results, Tryz.results82, go_sem, e0, e1, e2, e3, e4, e5, e6]) rfl ⟨rfl, hbl⟩
end Go.Proofs.YtfnamfkjbkhgeaaGreatDoor

/-
  States of sets: the reference's glyph of a code, by what is at hand for once.
-/
import Derived.Test.YtandfpghjbbalaaDoorIsoG
namespace Go.Proofs.YtandfpghjbbalaaDoor
open Go Go.RowKit

/-- What is known in its midst. -/
def KJ (w : World) (x : Array Value) (w' : World) : Prop := Blk w' w.heap.size 35 x ∧ Blk w' (w.heap.size + 1) 35 #[.int .i64 0, .int .i64 0, .int .i64 0, .int .i64 0, .int .i64 0, .int .i64 0, .int .i64 0] ∧ Below w.heap.size w w'
theorem KJ.start (w : World) (x : Array Value) : KJ w x ((w.alloc (.cells x 35)).alloc (.cells #[.int .i64 0, .int .i64 0, .int .i64 0, .int .i64 0, .int .i64 0, .int .i64 0, .int .i64 0] 35)) :=
  ⟨(Blk.new w _ x).alloc _, by have := Blk.new (w.alloc (.cells x 35)) 35 #[.int .i64 0, .int .i64 0, .int .i64 0, .int .i64 0, .int .i64 0, .int .i64 0, .int .i64 0]; simpa using this, ((Below.refl _ _).alloc (Nat.le_refl _) _).alloc (by simp) _⟩
theorem KJ.next {w W w' : World} {x : Array Value} (h : KJ w x W) (hb : Below W.heap.size W w') : KJ w x w' := ⟨h.1.next hb, h.2.1.next hb, h.2.2.trans (hb.mono h.2.2.size)⟩
theorem KJ.store {w W : World} {a b c d l r s : Value} (h : KJ w #[a, b, c, d, l, r, s] W) (k : Nat) (v : Value) : KJ w (#[a, b, c, d, l, r, s].setIfInBounds k v) (W.setCell ⟨w.heap.size, k, none⟩ v) :=
  ⟨h.1.set_ k v, Blk.far h.2.1 (by simp) _, h.2.2.setCell (by simp) _⟩
theorem KJ.only {w W W' : World} {x : Array Value} (h : KJ w x W) (ho : Only [w.heap.size + 1] W W') : Blk W' w.heap.size 35 x ∧ Below w.heap.size w W' :=
  ⟨ho.blk h.1 (by simp), h.2.2.trans (ho.below h.2.2.size (fun k hk => by simp at hk; omega))⟩
set_option maxRecDepth 100000 in
set_option maxHeartbeats 16000000 in
theorem refMap_once (a b c d l r s : Int) (hs : s = 2 ∨ s = 3) (n : Nat) (hn : n < 256) (h32 : 32 ≤ n % 128) (w : World) :
    Calls Tryd.prog 27 #[.agg #[.int .i64 a, .int .i64 b, .int .i64 c, .int .i64 d, .int .i64 l, .int .i64 r, .int .i64 s], .int .u8 n] w fun e w' => e = .returned (.tuple #[.int .i32 (gP (setN (if s = 2 then c else d)) (n % 128)), .agg #[.int .i64 a, .int .i64 b, .int .i64 c, .int .i64 d, .int .i64 l, .int .i64 r, .int .i64 0]]) ∧ Below w.heap.size w w' := by
  have HU := Lib.hid (fun (s : Int) W => used_any ⟨a, b, c, d, l, r, s⟩ W)
  have HG := Lib.hid (fun (z : Int) W => refGlyph_any z n hn W)
  have HK := Lib.hid (KJ.start w #[.int .i64 a, .int .i64 b, .int .i64 c, .int .i64 d, .int .i64 l, .int .i64 r, .int .i64 s])
  have hw8 : IntKind.u8.wrap (n : Int) = n := by simp [IntKind.wrap, IntKind.signed, IntKind.bits]; omega
  clear hw8
  have hc : (decide ((n : Int) < 32) = false ∧ decide (128 ≤ (n : Int)) = false) ∨ (decide ((n : Int) < 32) = false ∧ decide (128 ≤ (n : Int)) = true ∧ decide ((n : Int) < 160) = false) := by
    simp only [decide_eq_false_iff_not, decide_eq_true_iff]
    omega
  generalize n % 128 = m at *
  unfold Iso.val Iso.cs at HU
  generalize leftP = lf at *
  generalize rightP = rf at *
  clear h32
  rcases hs with rfl | rfl
  · rw [if_pos rfl]
    have HUs := Lib.hid (fun W => HU.out 2 W)
    have HGs := Lib.hid (fun W => HG.out c W)
    generalize gP (setN c) m = gl at *
    generalize lf ⟨a, b, c, d, l, r, 2⟩ = lp at *
    generalize rf ⟨a, b, c, d, l, r, 2⟩ = rp at *
    clear HU HG
    rcases hc with ⟨g1, g2⟩ | ⟨g1, g2, g3⟩
    · have HK0 := HK
      go_enter Tryd.func27, Tryd.ntmps27
      go_wp2_with fail
      refine (HUs.out _).mono ?_
      rintro e w1 ⟨rfl, hb1⟩
      have HKa := Lib.hid (HK0.out.next hb1)
      clear hb1
      obtain ⟨c0, c1, c2, c3, c4, c5, c6⟩ := seven HKa.out.1
      obtain ⟨y0, y1, y2, y3, y4, y5, y6⟩ := seven_fr HKa.out.1
      go_wp2_with fail
      have HK1 := Lib.hid (KJ.store HKa.out 6 (.int .i64 0))
      simp only [List.setIfInBounds_toArray, List.set_cons_zero, List.set_cons_succ] at HK1
      generalize w1.setCell ⟨w.heap.size, 6, none⟩ (.int .i64 0) = W1 at *
      clear c0 c1 c2 c3 c4 c5 c6 y0 y1 y2 y3 y4 y5 y6
      refine wp_region_mix_lit (by kernel_rfl) [(5, .call (.int .i32 gl)), (8, .store (w.heap.size + 1) 35 #[.int .i64 0, .int .i64 0, .int .i64 0, .int .i64 0, .int .i64 0, .int .i64 0, .int .i64 0] (fun _ => #[.int .i64 a, .int .i64 b, .int .i64 c, .int .i64 d, .int .i64 l, .int .i64 r, .int .i64 0]))] (by kernel_rfl) (by kernel_rfl) (by kernel_rfl) (by rfl) (by simp [apartK] <;> omega) (by simp [startK]; exact HK1.out.2.1) (by simp [stabK]) (⟨fun _ => undef, by simp [okK]⟩) (fun β hβ => ?_)
      repeat (
        refine lex_val (v := ?_) rfl rfl (fun w' hf => ?_) ?_
        rotate_left
        · obtain ⟨c0, c1, c2, c3, c4, c5, c6⟩ := seven (KJ.only HK1.out hf.only).1; go_simp
          try rfl
        try simp only [Act.put, List.setIfInBounds_toArray, List.set_cons_zero, List.set_cons_succ])
      refine lex_call (f := 14) (args := ?_) rfl rfl (fun w' hf => ?_) (fun w' hf => ?_) ?_
      rotate_left
      · obtain ⟨c0, c1, c2, c3, c4, c5, c6⟩ := seven (KJ.only HK1.out hf.only).1; go_simp
        try rfl
      · obtain ⟨c0, c1, c2, c3, c4, c5, c6⟩ := seven (KJ.only HK1.out hf.only).1; exact HGs.out w'
      try simp only [Act.put, List.setIfInBounds_toArray, List.set_cons_zero, List.set_cons_succ]
      repeat (
        refine lex_val (v := ?_) rfl rfl (fun w' hf => ?_) ?_
        rotate_left
        · obtain ⟨c0, c1, c2, c3, c4, c5, c6⟩ := seven (KJ.only HK1.out hf.only).1; go_simp
          try rfl
        try simp only [Act.put, List.setIfInBounds_toArray, List.set_cons_zero, List.set_cons_succ])
      refine lex_store rfl rfl (fun w' hf hB => ⟨_, ?_, repl7 hB (.int .i64 a) (.int .i64 b) (.int .i64 c) (.int .i64 d) (.int .i64 l) (.int .i64 r) (.int .i64 0)⟩) ?_
      · obtain ⟨z0, z1, z2, z3, z4, z5, z6⟩ := seven hB
        obtain ⟨f0, f1, f2, f3, f4, f5, f6⟩ := seven_fr hB
        unfold put7
        go_simp
      try simp only [Act.put]
      refine lex_nil fun w5 he => ?_
      have hz := he.facts 8
      obtain ⟨e0, e1, e2, e3, e4, e5, e6⟩ := seven (show Blk w5 (w.heap.size + 1) 35 #[.int .i64 a, .int .i64 b, .int .i64 c, .int .i64 d, .int .i64 l, .int .i64 r, .int .i64 0] from hz)
      have hbl := (KJ.only HK1.out he.only).2
      clear he hz
      go_wp2_with fail
      exact bodyPost_ret (v := .tuple #[.int .i32 gl, .agg #[.int .i64 a, .int .i64 b, .int .i64 c, .int .i64 d, .int .i64 l, .int .i64 r, .int .i64 0]]) (by simp [results, Tryd.results27, go_sem, e0, e1, e2, e3, e4, e5, e6]) rfl ⟨rfl, hbl⟩
    · have HK0 := HK
      go_enter Tryd.func27, Tryd.ntmps27
      go_wp2_with fail
      refine (HUs.out _).mono ?_
      rintro e w1 ⟨rfl, hb1⟩
      have HKa := Lib.hid (HK0.out.next hb1)
      clear hb1
      obtain ⟨c0, c1, c2, c3, c4, c5, c6⟩ := seven HKa.out.1
      obtain ⟨y0, y1, y2, y3, y4, y5, y6⟩ := seven_fr HKa.out.1
      go_wp2_with fail
      have HK1 := Lib.hid (KJ.store HKa.out 6 (.int .i64 0))
      simp only [List.setIfInBounds_toArray, List.set_cons_zero, List.set_cons_succ] at HK1
      generalize w1.setCell ⟨w.heap.size, 6, none⟩ (.int .i64 0) = W1 at *
      clear c0 c1 c2 c3 c4 c5 c6 y0 y1 y2 y3 y4 y5 y6
      refine wp_region_mix_lit (by kernel_rfl) [(5, .call (.int .i32 gl)), (8, .store (w.heap.size + 1) 35 #[.int .i64 0, .int .i64 0, .int .i64 0, .int .i64 0, .int .i64 0, .int .i64 0, .int .i64 0] (fun _ => #[.int .i64 a, .int .i64 b, .int .i64 c, .int .i64 d, .int .i64 l, .int .i64 r, .int .i64 0]))] (by kernel_rfl) (by kernel_rfl) (by kernel_rfl) (by rfl) (by simp [apartK] <;> omega) (by simp [startK]; exact HK1.out.2.1) (by simp [stabK]) (⟨fun _ => undef, by simp [okK]⟩) (fun β hβ => ?_)
      repeat (
        refine lex_val (v := ?_) rfl rfl (fun w' hf => ?_) ?_
        rotate_left
        · obtain ⟨c0, c1, c2, c3, c4, c5, c6⟩ := seven (KJ.only HK1.out hf.only).1; go_simp
          try rfl
        try simp only [Act.put, List.setIfInBounds_toArray, List.set_cons_zero, List.set_cons_succ])
      refine lex_call (f := 14) (args := ?_) rfl rfl (fun w' hf => ?_) (fun w' hf => ?_) ?_
      rotate_left
      · obtain ⟨c0, c1, c2, c3, c4, c5, c6⟩ := seven (KJ.only HK1.out hf.only).1; go_simp
        try rfl
      · obtain ⟨c0, c1, c2, c3, c4, c5, c6⟩ := seven (KJ.only HK1.out hf.only).1; exact HGs.out w'
      try simp only [Act.put, List.setIfInBounds_toArray, List.set_cons_zero, List.set_cons_succ]
      repeat (
        refine lex_val (v := ?_) rfl rfl (fun w' hf => ?_) ?_
        rotate_left
        · obtain ⟨c0, c1, c2, c3, c4, c5, c6⟩ := seven (KJ.only HK1.out hf.only).1; go_simp
          try rfl
        try simp only [Act.put, List.setIfInBounds_toArray, List.set_cons_zero, List.set_cons_succ])
      refine lex_store rfl rfl (fun w' hf hB => ⟨_, ?_, repl7 hB (.int .i64 a) (.int .i64 b) (.int .i64 c) (.int .i64 d) (.int .i64 l) (.int .i64 r) (.int .i64 0)⟩) ?_
      · obtain ⟨z0, z1, z2, z3, z4, z5, z6⟩ := seven hB
        obtain ⟨f0, f1, f2, f3, f4, f5, f6⟩ := seven_fr hB
        unfold put7
        go_simp
      try simp only [Act.put]
      refine lex_nil fun w5 he => ?_
      have hz := he.facts 8
      obtain ⟨e0, e1, e2, e3, e4, e5, e6⟩ := seven (show Blk w5 (w.heap.size + 1) 35 #[.int .i64 a, .int .i64 b, .int .i64 c, .int .i64 d, .int .i64 l, .int .i64 r, .int .i64 0] from hz)
      have hbl := (KJ.only HK1.out he.only).2
      clear he hz
      go_wp2_with fail
      exact bodyPost_ret (v := .tuple #[.int .i32 gl, .agg #[.int .i64 a, .int .i64 b, .int .i64 c, .int .i64 d, .int .i64 l, .int .i64 r, .int .i64 0]]) (by simp [results, Tryd.results27, go_sem, e0, e1, e2, e3, e4, e5, e6]) rfl ⟨rfl, hbl⟩
  · rw [if_neg (by decide)]
    have HUs := Lib.hid (fun W => HU.out 3 W)
    have HGs := Lib.hid (fun W => HG.out d W)
    generalize gP (setN d) m = gl at *
    generalize lf ⟨a, b, c, d, l, r, 3⟩ = lp at *
    generalize rf ⟨a, b, c, d, l, r, 3⟩ = rp at *
    clear HU HG
    rcases hc with ⟨g1, g2⟩ | ⟨g1, g2, g3⟩
    · have HK0 := HK
      go_enter Tryd.func27, Tryd.ntmps27
      go_wp2_with fail
      refine (HUs.out _).mono ?_
      rintro e w1 ⟨rfl, hb1⟩
      have HKa := Lib.hid (HK0.out.next hb1)
      clear hb1
      obtain ⟨c0, c1, c2, c3, c4, c5, c6⟩ := seven HKa.out.1
      obtain ⟨y0, y1, y2, y3, y4, y5, y6⟩ := seven_fr HKa.out.1
      go_wp2_with fail
      have HK1 := Lib.hid (KJ.store HKa.out 6 (.int .i64 0))
      simp only [List.setIfInBounds_toArray, List.set_cons_zero, List.set_cons_succ] at HK1
      generalize w1.setCell ⟨w.heap.size, 6, none⟩ (.int .i64 0) = W1 at *
      clear c0 c1 c2 c3 c4 c5 c6 y0 y1 y2 y3 y4 y5 y6
      refine wp_region_mix_lit (by kernel_rfl) [(5, .call (.int .i32 gl)), (8, .store (w.heap.size + 1) 35 #[.int .i64 0, .int .i64 0, .int .i64 0, .int .i64 0, .int .i64 0, .int .i64 0, .int .i64 0] (fun _ => #[.int .i64 a, .int .i64 b, .int .i64 c, .int .i64 d, .int .i64 l, .int .i64 r, .int .i64 0]))] (by kernel_rfl) (by kernel_rfl) (by kernel_rfl) (by rfl) (by simp [apartK] <;> omega) (by simp [startK]; exact HK1.out.2.1) (by simp [stabK]) (⟨fun _ => undef, by simp [okK]⟩) (fun β hβ => ?_)
      repeat (
        refine lex_val (v := ?_) rfl rfl (fun w' hf => ?_) ?_
        rotate_left
        · obtain ⟨c0, c1, c2, c3, c4, c5, c6⟩ := seven (KJ.only HK1.out hf.only).1; go_simp
          try rfl
        try simp only [Act.put, List.setIfInBounds_toArray, List.set_cons_zero, List.set_cons_succ])
      refine lex_call (f := 14) (args := ?_) rfl rfl (fun w' hf => ?_) (fun w' hf => ?_) ?_
      rotate_left
      · obtain ⟨c0, c1, c2, c3, c4, c5, c6⟩ := seven (KJ.only HK1.out hf.only).1; go_simp
        try rfl
      · obtain ⟨c0, c1, c2, c3, c4, c5, c6⟩ := seven (KJ.only HK1.out hf.only).1; exact HGs.out w'
      try simp only [Act.put, List.setIfInBounds_toArray, List.set_cons_zero, List.set_cons_succ]
      repeat (
        refine lex_val (v := ?_) rfl rfl (fun w' hf => ?_) ?_
        rotate_left
        · obtain ⟨c0, c1, c2, c3, c4, c5, c6⟩ := seven (KJ.only HK1.out hf.only).1; go_simp
          try rfl
        try simp only [Act.put, List.setIfInBounds_toArray, List.set_cons_zero, List.set_cons_succ])
      refine lex_store rfl rfl (fun w' hf hB => ⟨_, ?_, repl7 hB (.int .i64 a) (.int .i64 b) (.int .i64 c) (.int .i64 d) (.int .i64 l) (.int .i64 r) (.int .i64 0)⟩) ?_
      · obtain ⟨z0, z1, z2, z3, z4, z5, z6⟩ := seven hB
        obtain ⟨f0, f1, f2, f3, f4, f5, f6⟩ := seven_fr hB
        unfold put7
        go_simp
      try simp only [Act.put]
      refine lex_nil fun w5 he => ?_
      have hz := he.facts 8
      obtain ⟨e0, e1, e2, e3, e4, e5, e6⟩ := seven (show Blk w5 (w.heap.size + 1) 35 #[.int .i64 a, .int .i64 b, .int .i64 c, .int .i64 d, .int .i64 l, .int .i64 r, .int .i64 0] from hz)
      have hbl := (KJ.only HK1.out he.only).2
      clear he hz
      go_wp2_with fail
      exact bodyPost_ret (v := .tuple #[.int .i32 gl, .agg #[.int .i64 a, .int .i64 b, .int .i64 c, .int .i64 d, .int .i64 l, .int .i64 r, .int .i64 0]]) (by simp [results, Tryd.results27, go_sem, e0, e1, e2, e3, e4, e5, e6]) rfl ⟨rfl, hbl⟩
    · have HK0 := HK
      go_enter Tryd.func27, Tryd.ntmps27
      go_wp2_with fail
      refine (HUs.out _).mono ?_
      rintro e w1 ⟨rfl, hb1⟩
      have HKa := Lib.hid (HK0.out.next hb1)
      clear hb1
      obtain ⟨c0, c1, c2, c3, c4, c5, c6⟩ := seven HKa.out.1
      obtain ⟨y0, y1, y2, y3, y4, y5, y6⟩ := seven_fr HKa.out.1
      go_wp2_with fail
      have HK1 := Lib.hid (KJ.store HKa.out 6 (.int .i64 0))
      simp only [List.setIfInBounds_toArray, List.set_cons_zero, List.set_cons_succ] at HK1
      generalize w1.setCell ⟨w.heap.size, 6, none⟩ (.int .i64 0) = W1 at *
      clear c0 c1 c2 c3 c4 c5 c6 y0 y1 y2 y3 y4 y5 y6
      refine wp_region_mix_lit (by kernel_rfl) [(5, .call (.int .i32 gl)), (8, .store (w.heap.size + 1) 35 #[.int .i64 0, .int .i64 0, .int .i64 0, .int .i64 0, .int .i64 0, .int .i64 0, .int .i64 0] (fun _ => #[.int .i64 a, .int .i64 b, .int .i64 c, .int .i64 d, .int .i64 l, .int .i64 r, .int .i64 0]))] (by kernel_rfl) (by kernel_rfl) (by kernel_rfl) (by rfl) (by simp [apartK] <;> omega) (by simp [startK]; exact HK1.out.2.1) (by simp [stabK]) (⟨fun _ => undef, by simp [okK]⟩) (fun β hβ => ?_)
      repeat (
        refine lex_val (v := ?_) rfl rfl (fun w' hf => ?_) ?_
        rotate_left
        · obtain ⟨c0, c1, c2, c3, c4, c5, c6⟩ := seven (KJ.only HK1.out hf.only).1; go_simp
          try rfl
        try simp only [Act.put, List.setIfInBounds_toArray, List.set_cons_zero, List.set_cons_succ])
      refine lex_call (f := 14) (args := ?_) rfl rfl (fun w' hf => ?_) (fun w' hf => ?_) ?_
      rotate_left
      · obtain ⟨c0, c1, c2, c3, c4, c5, c6⟩ := seven (KJ.only HK1.out hf.only).1; go_simp
        try rfl
      · obtain ⟨c0, c1, c2, c3, c4, c5, c6⟩ := seven (KJ.only HK1.out hf.only).1; exact HGs.out w'
      try simp only [Act.put, List.setIfInBounds_toArray, List.set_cons_zero, List.set_cons_succ]
      repeat (
        refine lex_val (v := ?_) rfl rfl (fun w' hf => ?_) ?_
        rotate_left
        · obtain ⟨c0, c1, c2, c3, c4, c5, c6⟩ := seven (KJ.only HK1.out hf.only).1; go_simp
          try rfl
        try simp only [Act.put, List.setIfInBounds_toArray, List.set_cons_zero, List.set_cons_succ])
      refine lex_store rfl rfl (fun w' hf hB => ⟨_, ?_, repl7 hB (.int .i64 a) (.int .i64 b) (.int .i64 c) (.int .i64 d) (.int .i64 l) (.int .i64 r) (.int .i64 0)⟩) ?_
      · obtain ⟨z0, z1, z2, z3, z4, z5, z6⟩ := seven hB
        obtain ⟨f0, f1, f2, f3, f4, f5, f6⟩ := seven_fr hB
        unfold put7
        go_simp
      try simp only [Act.put]
      refine lex_nil fun w5 he => ?_
      have hz := he.facts 8
      obtain ⟨e0, e1, e2, e3, e4, e5, e6⟩ := seven (show Blk w5 (w.heap.size + 1) 35 #[.int .i64 a, .int .i64 b, .int .i64 c, .int .i64 d, .int .i64 l, .int .i64 r, .int .i64 0] from hz)
      have hbl := (KJ.only HK1.out he.only).2
      clear he hz
      go_wp2_with fail
      exact bodyPost_ret (v := .tuple #[.int .i32 gl, .agg #[.int .i64 a, .int .i64 b, .int .i64 c, .int .i64 d, .int .i64 l, .int .i64 r, .int .i64 0]]) (by simp [results, Tryd.results27, go_sem, e0, e1, e2, e3, e4, e5, e6]) rfl ⟨rfl, hbl⟩
end Go.Proofs.YtandfpghjbbalaaDoor

/-
  States of sets: the glyph of a code, by what is at hand.
-/
import Derived.Test.YtandfpghjbbalaaDoorIsoB
import Derived.Test.YtandfpghjbbalaaDoorMixE
namespace Go.Proofs.YtandfpghjbbalaaDoor
open Go Go.RowKit

theorem repl7 {w : World} {g : Nat} {T : TypeId} {u0 u1 u2 u3 u4 u5 u6 : Value} (h : Blk w g T #[u0, u1, u2, u3, u4, u5, u6]) (v0 v1 v2 v3 v4 v5 v6 : Value) : Repl w (put7 w g v0 v1 v2 v3 v4 v5 v6) g T #[v0, v1, v2, v3, v4, v5, v6] := by
  have h0 := h.set_ 0 v0
  have h1 := h0.set_ 1 v1
  have h2 := h1.set_ 2 v2
  have h3 := h2.set_ 3 v3
  have h4 := h3.set_ 4 v4
  have h5 := h4.set_ 5 v5
  have := (Repl.set h 0 v0).trans ((Repl.set h0 1 v1).trans ((Repl.set h1 2 v2).trans ((Repl.set h2 3 v3).trans ((Repl.set h3 4 v4).trans ((Repl.set h4 5 v5).trans (Repl.set h5 6 v6))))))
  simp only [List.setIfInBounds_toArray, List.set_cons_zero, List.set_cons_succ] at this
  exact this
theorem KI.only {w W W' : World} {x : Array Value} (h : KI w x W) (ho : Only [w.heap.size + 1] W W') : Blk W' w.heap.size 37 x ∧ Below w.heap.size w W' :=
  ⟨ho.blk h.1 (by simp), h.2.2.trans (ho.below h.2.2.size (fun k hk => by simp at hk; omega))⟩
def Iso.at_ (x : Iso) (j : Int) : Int := if j = 0 then x.a else if j = 1 then x.b else if j = 2 then x.c else x.d
/-- The glyph of a code, and the state behind it. -/
def mapP (x : Iso) (n : Nat) : Int × Iso := if n % 128 < 32 then (0, x) else (gP (setN (x.at_ (meantP x n))) (n % 128), if sinB x.s = true then { x with s := 0 } else x)
def mapV (p : Int × Iso) : Value := .tuple #[.int .i32 p.1, p.2.val]
theorem in_cases {g : Int} (h : inB 0 g = true) : g = 0 ∨ g = 1 ∨ g = 2 ∨ g = 3 := by unfold inB at h; simp at h; omega
theorem meant_in (x : Iso) (n : Nat) : meantP x n = 0 ∨ meantP x n = 1 ∨ meantP x n = 2 ∨ meantP x n = 3 := by
  unfold meantP
  by_cases h : sinB x.s = true
  · rw [if_pos h]
    unfold sinB at h
    simp at h
    omega
  · rw [if_neg h]
    by_cases h8 : n < 128
    · rw [if_pos h8]
      unfold leftP
      by_cases h1 : inB 0 x.l = true
      · rw [if_pos h1]; exact in_cases h1
      · rw [if_neg h1]; exact .inl rfl
    · rw [if_neg h8]
      unfold rightP
      by_cases h1 : inB 0 x.r = true
      · rw [if_pos h1]; exact in_cases h1
      · rw [if_neg h1]; exact .inr (.inr (.inl rfl))
set_option maxRecDepth 100000 in
set_option maxHeartbeats 16000000 in
theorem map_any (x : Iso) (n : Nat) (hn : n < 256) (w : World) (ht : Faces w) :
    Calls Tryd.prog 26 #[x.val, .int .u8 n] w fun e w' => e = .returned (mapV (mapP x n)) ∧ Below w.heap.size w w' := by
  have hand := and_bits n hn
  have HM := Lib.hid (fun W => meant_any x n hn W)
  have HG := Lib.hid (fun (z : Int) W t => glyph_any z n hn W t)
  have HI := Lib.hid (fun W => isSingle_any x.s W)
  have HK := Lib.hid (KI.start w x.cs)
  have HT := Lib.hid ht
  clear ht
  unfold mapP mapV
  have hmn := meant_in x n
  generalize n % 128 = m at *
  by_cases h32 : m < 32
  · rw [if_pos h32]
    have g1 : decide ((m : Int) < 32) = true := by simp; omega
    obtain ⟨a, b, c, d, l, r, s⟩ := x
    unfold Iso.val Iso.cs at *
    simp only at HK ⊢
    have HK1 := HK
    clear HM HG HI h32 hmn
    go_enter Tryd.func26, Tryd.ntmps26
    go_wp2_with fail
    generalize (w.alloc (.cells #[.int .i64 a, .int .i64 b, .int .i64 c, .int .i64 d, .int .i64 l, .int .i64 r, .int .i64 s] 37)).alloc (.cells #[.int .i64 0, .int .i64 0, .int .i64 0, .int .i64 0, .int .i64 0, .int .i64 0, .int .i64 0] 37) = W1 at *
    refine wp_region_mix_lit (by kernel_rfl) [(2, .store (w.heap.size + 1) 37 #[.int .i64 0, .int .i64 0, .int .i64 0, .int .i64 0, .int .i64 0, .int .i64 0, .int .i64 0] (fun _ => #[.int .i64 a, .int .i64 b, .int .i64 c, .int .i64 d, .int .i64 l, .int .i64 r, .int .i64 s]))] (by kernel_rfl) (by kernel_rfl) (by kernel_rfl) (by rfl) (by simp [apartK] <;> omega) (by simp [startK]; exact HK1.out.2.1) (by simp [stabK]) (⟨fun _ => undef, by simp [okK]⟩) (fun β hβ => ?_)
    repeat (
      refine lex_val (v := ?_) rfl rfl (fun w' hf => ?_) ?_
      rotate_left
      · obtain ⟨c0, c1, c2, c3, c4, c5, c6⟩ := seven (KI.only HK1.out hf.only).1; go_simp
        try rfl
      try simp only [Act.put, List.setIfInBounds_toArray, List.set_cons_zero, List.set_cons_succ])
    refine lex_store rfl rfl (fun w' hf hB => ⟨_, ?_, repl7 hB (.int .i64 a) (.int .i64 b) (.int .i64 c) (.int .i64 d) (.int .i64 l) (.int .i64 r) (.int .i64 s)⟩) ?_
    · obtain ⟨z0, z1, z2, z3, z4, z5, z6⟩ := seven hB
      obtain ⟨f0, f1, f2, f3, f4, f5, f6⟩ := seven_fr hB
      unfold put7
      go_simp
    try simp only [Act.put]
    refine lex_nil fun w5 he => ?_
    have hz := he.facts 2
    obtain ⟨e0, e1, e2, e3, e4, e5, e6⟩ := seven (show Blk w5 (w.heap.size + 1) 37 #[.int .i64 a, .int .i64 b, .int .i64 c, .int .i64 d, .int .i64 l, .int .i64 r, .int .i64 s] from hz)
    have hbl := (KI.only HK1.out he.only).2
    clear he hz
    go_wp2_with fail
    exact bodyPost_ret (v := .tuple #[.int .i32 0, .agg #[.int .i64 a, .int .i64 b, .int .i64 c, .int .i64 d, .int .i64 l, .int .i64 r, .int .i64 s]]) (by simp [results, Tryd.results26, go_sem, e0, e1, e2, e3, e4, e5, e6]) rfl ⟨rfl, hbl⟩
  · rw [if_neg h32]
    have g1 : decide ((m : Int) < 32) = false := by simp; omega
    generalize meantP x n = j at *
    obtain ⟨a, b, c, d, l, r, s⟩ := x
    unfold Iso.val Iso.cs at *
    simp only at HK HI ⊢
    clear h32
    rcases hmn with rfl | rfl | rfl | rfl
    · rw [show Iso.at_ ⟨a, b, c, d, l, r, s⟩ 0 = a from rfl]
      have HGq := Lib.hid (fun W t => HG.out a W t)
      generalize gP (setN a) m = gl at *
      rcases hs : sinB s with _ | _
      · rw [hs] at HI
        rw [if_neg (by simp)]
        clear hs
        simp only
        have HK0 := HK
        go_enter Tryd.func26, Tryd.ntmps26
        go_wp2_with fail
        refine (HM.out _).mono ?_
        rintro e w1 ⟨rfl, hb1⟩
        have HKa := Lib.hid (HK0.out.next hb1)
        have HT1 := Lib.hid (HT.out.next HKa.out.2.2)
        clear hb1
        obtain ⟨c0, c1, c2, c3, c4, c5, c6⟩ := seven HKa.out.1
        go_wp2_with fail
        refine (HGq.out _ HT1.out).mono ?_
        rintro e w2 ⟨rfl, hb2⟩
        have HKb := Lib.hid (HKa.out.next hb2)
        clear hb2 c0 c1 c2 c3 c4 c5 c6
        obtain ⟨c0, c1, c2, c3, c4, c5, c6⟩ := seven HKb.out.1
        obtain ⟨y0, y1, y2, y3, y4, y5, y6⟩ := seven_fr HKb.out.1
        go_wp2_with fail
        refine (HI.out _).mono ?_
        rintro e w3 ⟨rfl, rfl⟩
        go_wp2_with fail
        have HK1 := HKb
        clear c0 c1 c2 c3 c4 c5 c6 y0 y1 y2 y3 y4 y5 y6
        refine wp_region_mix_lit (by kernel_rfl) [(3, .store (w.heap.size + 1) 37 #[.int .i64 0, .int .i64 0, .int .i64 0, .int .i64 0, .int .i64 0, .int .i64 0, .int .i64 0] (fun _ => #[.int .i64 a, .int .i64 b, .int .i64 c, .int .i64 d, .int .i64 l, .int .i64 r, .int .i64 s]))] (by kernel_rfl) (by kernel_rfl) (by kernel_rfl) (by rfl) (by simp [apartK] <;> omega) (by simp [startK]; exact HK1.out.2.1) (by simp [stabK]) (⟨fun _ => undef, by simp [okK]⟩) (fun β hβ => ?_)
        repeat (
          refine lex_val (v := ?_) rfl rfl (fun w' hf => ?_) ?_
          rotate_left
          · obtain ⟨c0, c1, c2, c3, c4, c5, c6⟩ := seven (KI.only HK1.out hf.only).1; go_simp
            try rfl
          try simp only [Act.put, List.setIfInBounds_toArray, List.set_cons_zero, List.set_cons_succ])
        refine lex_store rfl rfl (fun w' hf hB => ⟨_, ?_, repl7 hB (.int .i64 a) (.int .i64 b) (.int .i64 c) (.int .i64 d) (.int .i64 l) (.int .i64 r) (.int .i64 s)⟩) ?_
        · obtain ⟨z0, z1, z2, z3, z4, z5, z6⟩ := seven hB
          obtain ⟨f0, f1, f2, f3, f4, f5, f6⟩ := seven_fr hB
          unfold put7
          go_simp
        try simp only [Act.put]
        refine lex_nil fun w5 he => ?_
        have hz := he.facts 3
        obtain ⟨e0, e1, e2, e3, e4, e5, e6⟩ := seven (show Blk w5 (w.heap.size + 1) 37 #[.int .i64 a, .int .i64 b, .int .i64 c, .int .i64 d, .int .i64 l, .int .i64 r, .int .i64 s] from hz)
        have hbl := (KI.only HK1.out he.only).2
        clear he hz
        go_wp2_with fail
        exact bodyPost_ret (v := .tuple #[.int .i32 gl, .agg #[.int .i64 a, .int .i64 b, .int .i64 c, .int .i64 d, .int .i64 l, .int .i64 r, .int .i64 s]]) (by simp [results, Tryd.results26, go_sem, e0, e1, e2, e3, e4, e5, e6]) rfl ⟨rfl, hbl⟩
      · rw [hs] at HI
        rw [if_pos rfl]
        clear hs
        simp only
        have HK0 := HK
        go_enter Tryd.func26, Tryd.ntmps26
        go_wp2_with fail
        refine (HM.out _).mono ?_
        rintro e w1 ⟨rfl, hb1⟩
        have HKa := Lib.hid (HK0.out.next hb1)
        have HT1 := Lib.hid (HT.out.next HKa.out.2.2)
        clear hb1
        obtain ⟨c0, c1, c2, c3, c4, c5, c6⟩ := seven HKa.out.1
        go_wp2_with fail
        refine (HGq.out _ HT1.out).mono ?_
        rintro e w2 ⟨rfl, hb2⟩
        have HKb := Lib.hid (HKa.out.next hb2)
        clear hb2 c0 c1 c2 c3 c4 c5 c6
        obtain ⟨c0, c1, c2, c3, c4, c5, c6⟩ := seven HKb.out.1
        obtain ⟨y0, y1, y2, y3, y4, y5, y6⟩ := seven_fr HKb.out.1
        go_wp2_with fail
        refine (HI.out _).mono ?_
        rintro e w3 ⟨rfl, rfl⟩
        go_wp2_with fail
        have HK1 := Lib.hid (KI.store HKb.out 6 (.int .i64 0))
        simp only [List.setIfInBounds_toArray, List.set_cons_zero, List.set_cons_succ] at HK1
        generalize w2.setCell ⟨w.heap.size, 6, none⟩ (.int .i64 0) = W1 at *
        clear c0 c1 c2 c3 c4 c5 c6 y0 y1 y2 y3 y4 y5 y6
        refine wp_region_mix_lit (by kernel_rfl) [(3, .store (w.heap.size + 1) 37 #[.int .i64 0, .int .i64 0, .int .i64 0, .int .i64 0, .int .i64 0, .int .i64 0, .int .i64 0] (fun _ => #[.int .i64 a, .int .i64 b, .int .i64 c, .int .i64 d, .int .i64 l, .int .i64 r, .int .i64 0]))] (by kernel_rfl) (by kernel_rfl) (by kernel_rfl) (by rfl) (by simp [apartK] <;> omega) (by simp [startK]; exact HK1.out.2.1) (by simp [stabK]) (⟨fun _ => undef, by simp [okK]⟩) (fun β hβ => ?_)
        repeat (
          refine lex_val (v := ?_) rfl rfl (fun w' hf => ?_) ?_
          rotate_left
          · obtain ⟨c0, c1, c2, c3, c4, c5, c6⟩ := seven (KI.only HK1.out hf.only).1; go_simp
            try rfl
          try simp only [Act.put, List.setIfInBounds_toArray, List.set_cons_zero, List.set_cons_succ])
        refine lex_store rfl rfl (fun w' hf hB => ⟨_, ?_, repl7 hB (.int .i64 a) (.int .i64 b) (.int .i64 c) (.int .i64 d) (.int .i64 l) (.int .i64 r) (.int .i64 0)⟩) ?_
        · obtain ⟨z0, z1, z2, z3, z4, z5, z6⟩ := seven hB
          obtain ⟨f0, f1, f2, f3, f4, f5, f6⟩ := seven_fr hB
          unfold put7
          go_simp
        try simp only [Act.put]
        refine lex_nil fun w5 he => ?_
        have hz := he.facts 3
        obtain ⟨e0, e1, e2, e3, e4, e5, e6⟩ := seven (show Blk w5 (w.heap.size + 1) 37 #[.int .i64 a, .int .i64 b, .int .i64 c, .int .i64 d, .int .i64 l, .int .i64 r, .int .i64 0] from hz)
        have hbl := (KI.only HK1.out he.only).2
        clear he hz
        go_wp2_with fail
        exact bodyPost_ret (v := .tuple #[.int .i32 gl, .agg #[.int .i64 a, .int .i64 b, .int .i64 c, .int .i64 d, .int .i64 l, .int .i64 r, .int .i64 0]]) (by simp [results, Tryd.results26, go_sem, e0, e1, e2, e3, e4, e5, e6]) rfl ⟨rfl, hbl⟩
    · rw [show Iso.at_ ⟨a, b, c, d, l, r, s⟩ 1 = b from rfl]
      have HGq := Lib.hid (fun W t => HG.out b W t)
      generalize gP (setN b) m = gl at *
      rcases hs : sinB s with _ | _
      · rw [hs] at HI
        rw [if_neg (by simp)]
        clear hs
        simp only
        have HK0 := HK
        go_enter Tryd.func26, Tryd.ntmps26
        go_wp2_with fail
        refine (HM.out _).mono ?_
        rintro e w1 ⟨rfl, hb1⟩
        have HKa := Lib.hid (HK0.out.next hb1)
        have HT1 := Lib.hid (HT.out.next HKa.out.2.2)
        clear hb1
        obtain ⟨c0, c1, c2, c3, c4, c5, c6⟩ := seven HKa.out.1
        go_wp2_with fail
        refine (HGq.out _ HT1.out).mono ?_
        rintro e w2 ⟨rfl, hb2⟩
        have HKb := Lib.hid (HKa.out.next hb2)
        clear hb2 c0 c1 c2 c3 c4 c5 c6
        obtain ⟨c0, c1, c2, c3, c4, c5, c6⟩ := seven HKb.out.1
        obtain ⟨y0, y1, y2, y3, y4, y5, y6⟩ := seven_fr HKb.out.1
        go_wp2_with fail
        refine (HI.out _).mono ?_
        rintro e w3 ⟨rfl, rfl⟩
        go_wp2_with fail
        have HK1 := HKb
        clear c0 c1 c2 c3 c4 c5 c6 y0 y1 y2 y3 y4 y5 y6
        refine wp_region_mix_lit (by kernel_rfl) [(3, .store (w.heap.size + 1) 37 #[.int .i64 0, .int .i64 0, .int .i64 0, .int .i64 0, .int .i64 0, .int .i64 0, .int .i64 0] (fun _ => #[.int .i64 a, .int .i64 b, .int .i64 c, .int .i64 d, .int .i64 l, .int .i64 r, .int .i64 s]))] (by kernel_rfl) (by kernel_rfl) (by kernel_rfl) (by rfl) (by simp [apartK] <;> omega) (by simp [startK]; exact HK1.out.2.1) (by simp [stabK]) (⟨fun _ => undef, by simp [okK]⟩) (fun β hβ => ?_)
        repeat (
          refine lex_val (v := ?_) rfl rfl (fun w' hf => ?_) ?_
          rotate_left
          · obtain ⟨c0, c1, c2, c3, c4, c5, c6⟩ := seven (KI.only HK1.out hf.only).1; go_simp
            try rfl
          try simp only [Act.put, List.setIfInBounds_toArray, List.set_cons_zero, List.set_cons_succ])
        refine lex_store rfl rfl (fun w' hf hB => ⟨_, ?_, repl7 hB (.int .i64 a) (.int .i64 b) (.int .i64 c) (.int .i64 d) (.int .i64 l) (.int .i64 r) (.int .i64 s)⟩) ?_
        · obtain ⟨z0, z1, z2, z3, z4, z5, z6⟩ := seven hB
          obtain ⟨f0, f1, f2, f3, f4, f5, f6⟩ := seven_fr hB
          unfold put7
          go_simp
        try simp only [Act.put]
        refine lex_nil fun w5 he => ?_
        have hz := he.facts 3
        obtain ⟨e0, e1, e2, e3, e4, e5, e6⟩ := seven (show Blk w5 (w.heap.size + 1) 37 #[.int .i64 a, .int .i64 b, .int .i64 c, .int .i64 d, .int .i64 l, .int .i64 r, .int .i64 s] from hz)
        have hbl := (KI.only HK1.out he.only).2
        clear he hz
        go_wp2_with fail
        exact bodyPost_ret (v := .tuple #[.int .i32 gl, .agg #[.int .i64 a, .int .i64 b, .int .i64 c, .int .i64 d, .int .i64 l, .int .i64 r, .int .i64 s]]) (by simp [results, Tryd.results26, go_sem, e0, e1, e2, e3, e4, e5, e6]) rfl ⟨rfl, hbl⟩
      · rw [hs] at HI
        rw [if_pos rfl]
        clear hs
        simp only
        have HK0 := HK
        go_enter Tryd.func26, Tryd.ntmps26
        go_wp2_with fail
        refine (HM.out _).mono ?_
        rintro e w1 ⟨rfl, hb1⟩
        have HKa := Lib.hid (HK0.out.next hb1)
        have HT1 := Lib.hid (HT.out.next HKa.out.2.2)
        clear hb1
        obtain ⟨c0, c1, c2, c3, c4, c5, c6⟩ := seven HKa.out.1
        go_wp2_with fail
        refine (HGq.out _ HT1.out).mono ?_
        rintro e w2 ⟨rfl, hb2⟩
        have HKb := Lib.hid (HKa.out.next hb2)
        clear hb2 c0 c1 c2 c3 c4 c5 c6
        obtain ⟨c0, c1, c2, c3, c4, c5, c6⟩ := seven HKb.out.1
        obtain ⟨y0, y1, y2, y3, y4, y5, y6⟩ := seven_fr HKb.out.1
        go_wp2_with fail
        refine (HI.out _).mono ?_
        rintro e w3 ⟨rfl, rfl⟩
        go_wp2_with fail
        have HK1 := Lib.hid (KI.store HKb.out 6 (.int .i64 0))
        simp only [List.setIfInBounds_toArray, List.set_cons_zero, List.set_cons_succ] at HK1
        generalize w2.setCell ⟨w.heap.size, 6, none⟩ (.int .i64 0) = W1 at *
        clear c0 c1 c2 c3 c4 c5 c6 y0 y1 y2 y3 y4 y5 y6
        refine wp_region_mix_lit (by kernel_rfl) [(3, .store (w.heap.size + 1) 37 #[.int .i64 0, .int .i64 0, .int .i64 0, .int .i64 0, .int .i64 0, .int .i64 0, .int .i64 0] (fun _ => #[.int .i64 a, .int .i64 b, .int .i64 c, .int .i64 d, .int .i64 l, .int .i64 r, .int .i64 0]))] (by kernel_rfl) (by kernel_rfl) (by kernel_rfl) (by rfl) (by simp [apartK] <;> omega) (by simp [startK]; exact HK1.out.2.1) (by simp [stabK]) (⟨fun _ => undef, by simp [okK]⟩) (fun β hβ => ?_)
        repeat (
          refine lex_val (v := ?_) rfl rfl (fun w' hf => ?_) ?_
          rotate_left
          · obtain ⟨c0, c1, c2, c3, c4, c5, c6⟩ := seven (KI.only HK1.out hf.only).1; go_simp
            try rfl
          try simp only [Act.put, List.setIfInBounds_toArray, List.set_cons_zero, List.set_cons_succ])
        refine lex_store rfl rfl (fun w' hf hB => ⟨_, ?_, repl7 hB (.int .i64 a) (.int .i64 b) (.int .i64 c) (.int .i64 d) (.int .i64 l) (.int .i64 r) (.int .i64 0)⟩) ?_
        · obtain ⟨z0, z1, z2, z3, z4, z5, z6⟩ := seven hB
          obtain ⟨f0, f1, f2, f3, f4, f5, f6⟩ := seven_fr hB
          unfold put7
          go_simp
        try simp only [Act.put]
        refine lex_nil fun w5 he => ?_
        have hz := he.facts 3
        obtain ⟨e0, e1, e2, e3, e4, e5, e6⟩ := seven (show Blk w5 (w.heap.size + 1) 37 #[.int .i64 a, .int .i64 b, .int .i64 c, .int .i64 d, .int .i64 l, .int .i64 r, .int .i64 0] from hz)
        have hbl := (KI.only HK1.out he.only).2
        clear he hz
        go_wp2_with fail
        exact bodyPost_ret (v := .tuple #[.int .i32 gl, .agg #[.int .i64 a, .int .i64 b, .int .i64 c, .int .i64 d, .int .i64 l, .int .i64 r, .int .i64 0]]) (by simp [results, Tryd.results26, go_sem, e0, e1, e2, e3, e4, e5, e6]) rfl ⟨rfl, hbl⟩
    · rw [show Iso.at_ ⟨a, b, c, d, l, r, s⟩ 2 = c from rfl]
      have HGq := Lib.hid (fun W t => HG.out c W t)
      generalize gP (setN c) m = gl at *
      rcases hs : sinB s with _ | _
      · rw [hs] at HI
        rw [if_neg (by simp)]
        clear hs
        simp only
        have HK0 := HK
        go_enter Tryd.func26, Tryd.ntmps26
        go_wp2_with fail
        refine (HM.out _).mono ?_
        rintro e w1 ⟨rfl, hb1⟩
        have HKa := Lib.hid (HK0.out.next hb1)
        have HT1 := Lib.hid (HT.out.next HKa.out.2.2)
        clear hb1
        obtain ⟨c0, c1, c2, c3, c4, c5, c6⟩ := seven HKa.out.1
        go_wp2_with fail
        refine (HGq.out _ HT1.out).mono ?_
        rintro e w2 ⟨rfl, hb2⟩
        have HKb := Lib.hid (HKa.out.next hb2)
        clear hb2 c0 c1 c2 c3 c4 c5 c6
        obtain ⟨c0, c1, c2, c3, c4, c5, c6⟩ := seven HKb.out.1
        obtain ⟨y0, y1, y2, y3, y4, y5, y6⟩ := seven_fr HKb.out.1
        go_wp2_with fail
        refine (HI.out _).mono ?_
        rintro e w3 ⟨rfl, rfl⟩
        go_wp2_with fail
        have HK1 := HKb
        clear c0 c1 c2 c3 c4 c5 c6 y0 y1 y2 y3 y4 y5 y6
        refine wp_region_mix_lit (by kernel_rfl) [(3, .store (w.heap.size + 1) 37 #[.int .i64 0, .int .i64 0, .int .i64 0, .int .i64 0, .int .i64 0, .int .i64 0, .int .i64 0] (fun _ => #[.int .i64 a, .int .i64 b, .int .i64 c, .int .i64 d, .int .i64 l, .int .i64 r, .int .i64 s]))] (by kernel_rfl) (by kernel_rfl) (by kernel_rfl) (by rfl) (by simp [apartK] <;> omega) (by simp [startK]; exact HK1.out.2.1) (by simp [stabK]) (⟨fun _ => undef, by simp [okK]⟩) (fun β hβ => ?_)
        repeat (
          refine lex_val (v := ?_) rfl rfl (fun w' hf => ?_) ?_
          rotate_left
          · obtain ⟨c0, c1, c2, c3, c4, c5, c6⟩ := seven (KI.only HK1.out hf.only).1; go_simp
            try rfl
          try simp only [Act.put, List.setIfInBounds_toArray, List.set_cons_zero, List.set_cons_succ])
        refine lex_store rfl rfl (fun w' hf hB => ⟨_, ?_, repl7 hB (.int .i64 a) (.int .i64 b) (.int .i64 c) (.int .i64 d) (.int .i64 l) (.int .i64 r) (.int .i64 s)⟩) ?_
        · obtain ⟨z0, z1, z2, z3, z4, z5, z6⟩ := seven hB
          obtain ⟨f0, f1, f2, f3, f4, f5, f6⟩ := seven_fr hB
          unfold put7
          go_simp
        try simp only [Act.put]
        refine lex_nil fun w5 he => ?_
        have hz := he.facts 3
        obtain ⟨e0, e1, e2, e3, e4, e5, e6⟩ := seven (show Blk w5 (w.heap.size + 1) 37 #[.int .i64 a, .int .i64 b, .int .i64 c, .int .i64 d, .int .i64 l, .int .i64 r, .int .i64 s] from hz)
        have hbl := (KI.only HK1.out he.only).2
        clear he hz
        go_wp2_with fail
        exact bodyPost_ret (v := .tuple #[.int .i32 gl, .agg #[.int .i64 a, .int .i64 b, .int .i64 c, .int .i64 d, .int .i64 l, .int .i64 r, .int .i64 s]]) (by simp [results, Tryd.results26, go_sem, e0, e1, e2, e3, e4, e5, e6]) rfl ⟨rfl, hbl⟩
      · rw [hs] at HI
        rw [if_pos rfl]
        clear hs
        simp only
        have HK0 := HK
        go_enter Tryd.func26, Tryd.ntmps26
        go_wp2_with fail
        refine (HM.out _).mono ?_
        rintro e w1 ⟨rfl, hb1⟩
        have HKa := Lib.hid (HK0.out.next hb1)
        have HT1 := Lib.hid (HT.out.next HKa.out.2.2)
        clear hb1
        obtain ⟨c0, c1, c2, c3, c4, c5, c6⟩ := seven HKa.out.1
        go_wp2_with fail
        refine (HGq.out _ HT1.out).mono ?_
        rintro e w2 ⟨rfl, hb2⟩
        have HKb := Lib.hid (HKa.out.next hb2)
        clear hb2 c0 c1 c2 c3 c4 c5 c6
        obtain ⟨c0, c1, c2, c3, c4, c5, c6⟩ := seven HKb.out.1
        obtain ⟨y0, y1, y2, y3, y4, y5, y6⟩ := seven_fr HKb.out.1
        go_wp2_with fail
        refine (HI.out _).mono ?_
        rintro e w3 ⟨rfl, rfl⟩
        go_wp2_with fail
        have HK1 := Lib.hid (KI.store HKb.out 6 (.int .i64 0))
        simp only [List.setIfInBounds_toArray, List.set_cons_zero, List.set_cons_succ] at HK1
        generalize w2.setCell ⟨w.heap.size, 6, none⟩ (.int .i64 0) = W1 at *
        clear c0 c1 c2 c3 c4 c5 c6 y0 y1 y2 y3 y4 y5 y6
        refine wp_region_mix_lit (by kernel_rfl) [(3, .store (w.heap.size + 1) 37 #[.int .i64 0, .int .i64 0, .int .i64 0, .int .i64 0, .int .i64 0, .int .i64 0, .int .i64 0] (fun _ => #[.int .i64 a, .int .i64 b, .int .i64 c, .int .i64 d, .int .i64 l, .int .i64 r, .int .i64 0]))] (by kernel_rfl) (by kernel_rfl) (by kernel_rfl) (by rfl) (by simp [apartK] <;> omega) (by simp [startK]; exact HK1.out.2.1) (by simp [stabK]) (⟨fun _ => undef, by simp [okK]⟩) (fun β hβ => ?_)
        repeat (
          refine lex_val (v := ?_) rfl rfl (fun w' hf => ?_) ?_
          rotate_left
          · obtain ⟨c0, c1, c2, c3, c4, c5, c6⟩ := seven (KI.only HK1.out hf.only).1; go_simp
            try rfl
          try simp only [Act.put, List.setIfInBounds_toArray, List.set_cons_zero, List.set_cons_succ])
        refine lex_store rfl rfl (fun w' hf hB => ⟨_, ?_, repl7 hB (.int .i64 a) (.int .i64 b) (.int .i64 c) (.int .i64 d) (.int .i64 l) (.int .i64 r) (.int .i64 0)⟩) ?_
        · obtain ⟨z0, z1, z2, z3, z4, z5, z6⟩ := seven hB
          obtain ⟨f0, f1, f2, f3, f4, f5, f6⟩ := seven_fr hB
          unfold put7
          go_simp
        try simp only [Act.put]
        refine lex_nil fun w5 he => ?_
        have hz := he.facts 3
        obtain ⟨e0, e1, e2, e3, e4, e5, e6⟩ := seven (show Blk w5 (w.heap.size + 1) 37 #[.int .i64 a, .int .i64 b, .int .i64 c, .int .i64 d, .int .i64 l, .int .i64 r, .int .i64 0] from hz)
        have hbl := (KI.only HK1.out he.only).2
        clear he hz
        go_wp2_with fail
        exact bodyPost_ret (v := .tuple #[.int .i32 gl, .agg #[.int .i64 a, .int .i64 b, .int .i64 c, .int .i64 d, .int .i64 l, .int .i64 r, .int .i64 0]]) (by simp [results, Tryd.results26, go_sem, e0, e1, e2, e3, e4, e5, e6]) rfl ⟨rfl, hbl⟩
    · rw [show Iso.at_ ⟨a, b, c, d, l, r, s⟩ 3 = d from rfl]
      have HGq := Lib.hid (fun W t => HG.out d W t)
      generalize gP (setN d) m = gl at *
      rcases hs : sinB s with _ | _
      · rw [hs] at HI
        rw [if_neg (by simp)]
        clear hs
        simp only
        have HK0 := HK
        go_enter Tryd.func26, Tryd.ntmps26
        go_wp2_with fail
        refine (HM.out _).mono ?_
        rintro e w1 ⟨rfl, hb1⟩
        have HKa := Lib.hid (HK0.out.next hb1)
        have HT1 := Lib.hid (HT.out.next HKa.out.2.2)
        clear hb1
        obtain ⟨c0, c1, c2, c3, c4, c5, c6⟩ := seven HKa.out.1
        go_wp2_with fail
        refine (HGq.out _ HT1.out).mono ?_
        rintro e w2 ⟨rfl, hb2⟩
        have HKb := Lib.hid (HKa.out.next hb2)
        clear hb2 c0 c1 c2 c3 c4 c5 c6
        obtain ⟨c0, c1, c2, c3, c4, c5, c6⟩ := seven HKb.out.1
        obtain ⟨y0, y1, y2, y3, y4, y5, y6⟩ := seven_fr HKb.out.1
        go_wp2_with fail
        refine (HI.out _).mono ?_
        rintro e w3 ⟨rfl, rfl⟩
        go_wp2_with fail
        have HK1 := HKb
        clear c0 c1 c2 c3 c4 c5 c6 y0 y1 y2 y3 y4 y5 y6
        refine wp_region_mix_lit (by kernel_rfl) [(3, .store (w.heap.size + 1) 37 #[.int .i64 0, .int .i64 0, .int .i64 0, .int .i64 0, .int .i64 0, .int .i64 0, .int .i64 0] (fun _ => #[.int .i64 a, .int .i64 b, .int .i64 c, .int .i64 d, .int .i64 l, .int .i64 r, .int .i64 s]))] (by kernel_rfl) (by kernel_rfl) (by kernel_rfl) (by rfl) (by simp [apartK] <;> omega) (by simp [startK]; exact HK1.out.2.1) (by simp [stabK]) (⟨fun _ => undef, by simp [okK]⟩) (fun β hβ => ?_)
        repeat (
          refine lex_val (v := ?_) rfl rfl (fun w' hf => ?_) ?_
          rotate_left
          · obtain ⟨c0, c1, c2, c3, c4, c5, c6⟩ := seven (KI.only HK1.out hf.only).1; go_simp
            try rfl
          try simp only [Act.put, List.setIfInBounds_toArray, List.set_cons_zero, List.set_cons_succ])
        refine lex_store rfl rfl (fun w' hf hB => ⟨_, ?_, repl7 hB (.int .i64 a) (.int .i64 b) (.int .i64 c) (.int .i64 d) (.int .i64 l) (.int .i64 r) (.int .i64 s)⟩) ?_
        · obtain ⟨z0, z1, z2, z3, z4, z5, z6⟩ := seven hB
          obtain ⟨f0, f1, f2, f3, f4, f5, f6⟩ := seven_fr hB
          unfold put7
          go_simp
        try simp only [Act.put]
        refine lex_nil fun w5 he => ?_
        have hz := he.facts 3
        obtain ⟨e0, e1, e2, e3, e4, e5, e6⟩ := seven (show Blk w5 (w.heap.size + 1) 37 #[.int .i64 a, .int .i64 b, .int .i64 c, .int .i64 d, .int .i64 l, .int .i64 r, .int .i64 s] from hz)
        have hbl := (KI.only HK1.out he.only).2
        clear he hz
        go_wp2_with fail
        exact bodyPost_ret (v := .tuple #[.int .i32 gl, .agg #[.int .i64 a, .int .i64 b, .int .i64 c, .int .i64 d, .int .i64 l, .int .i64 r, .int .i64 s]]) (by simp [results, Tryd.results26, go_sem, e0, e1, e2, e3, e4, e5, e6]) rfl ⟨rfl, hbl⟩
      · rw [hs] at HI
        rw [if_pos rfl]
        clear hs
        simp only
        have HK0 := HK
        go_enter Tryd.func26, Tryd.ntmps26
        go_wp2_with fail
        refine (HM.out _).mono ?_
        rintro e w1 ⟨rfl, hb1⟩
        have HKa := Lib.hid (HK0.out.next hb1)
        have HT1 := Lib.hid (HT.out.next HKa.out.2.2)
        clear hb1
        obtain ⟨c0, c1, c2, c3, c4, c5, c6⟩ := seven HKa.out.1
        go_wp2_with fail
        refine (HGq.out _ HT1.out).mono ?_
        rintro e w2 ⟨rfl, hb2⟩
        have HKb := Lib.hid (HKa.out.next hb2)
        clear hb2 c0 c1 c2 c3 c4 c5 c6
        obtain ⟨c0, c1, c2, c3, c4, c5, c6⟩ := seven HKb.out.1
        obtain ⟨y0, y1, y2, y3, y4, y5, y6⟩ := seven_fr HKb.out.1
        go_wp2_with fail
        refine (HI.out _).mono ?_
        rintro e w3 ⟨rfl, rfl⟩
        go_wp2_with fail
        have HK1 := Lib.hid (KI.store HKb.out 6 (.int .i64 0))
        simp only [List.setIfInBounds_toArray, List.set_cons_zero, List.set_cons_succ] at HK1
        generalize w2.setCell ⟨w.heap.size, 6, none⟩ (.int .i64 0) = W1 at *
        clear c0 c1 c2 c3 c4 c5 c6 y0 y1 y2 y3 y4 y5 y6
        refine wp_region_mix_lit (by kernel_rfl) [(3, .store (w.heap.size + 1) 37 #[.int .i64 0, .int .i64 0, .int .i64 0, .int .i64 0, .int .i64 0, .int .i64 0, .int .i64 0] (fun _ => #[.int .i64 a, .int .i64 b, .int .i64 c, .int .i64 d, .int .i64 l, .int .i64 r, .int .i64 0]))] (by kernel_rfl) (by kernel_rfl) (by kernel_rfl) (by rfl) (by simp [apartK] <;> omega) (by simp [startK]; exact HK1.out.2.1) (by simp [stabK]) (⟨fun _ => undef, by simp [okK]⟩) (fun β hβ => ?_)
        repeat (
          refine lex_val (v := ?_) rfl rfl (fun w' hf => ?_) ?_
          rotate_left
          · obtain ⟨c0, c1, c2, c3, c4, c5, c6⟩ := seven (KI.only HK1.out hf.only).1; go_simp
            try rfl
          try simp only [Act.put, List.setIfInBounds_toArray, List.set_cons_zero, List.set_cons_succ])
        refine lex_store rfl rfl (fun w' hf hB => ⟨_, ?_, repl7 hB (.int .i64 a) (.int .i64 b) (.int .i64 c) (.int .i64 d) (.int .i64 l) (.int .i64 r) (.int .i64 0)⟩) ?_
        · obtain ⟨z0, z1, z2, z3, z4, z5, z6⟩ := seven hB
          obtain ⟨f0, f1, f2, f3, f4, f5, f6⟩ := seven_fr hB
          unfold put7
          go_simp
        try simp only [Act.put]
        refine lex_nil fun w5 he => ?_
        have hz := he.facts 3
        obtain ⟨e0, e1, e2, e3, e4, e5, e6⟩ := seven (show Blk w5 (w.heap.size + 1) 37 #[.int .i64 a, .int .i64 b, .int .i64 c, .int .i64 d, .int .i64 l, .int .i64 r, .int .i64 0] from hz)
        have hbl := (KI.only HK1.out he.only).2
        clear he hz
        go_wp2_with fail
        exact bodyPost_ret (v := .tuple #[.int .i32 gl, .agg #[.int .i64 a, .int .i64 b, .int .i64 c, .int .i64 d, .int .i64 l, .int .i64 r, .int .i64 0]]) (by simp [results, Tryd.results26, go_sem, e0, e1, e2, e3, e4, e5, e6]) rfl ⟨rfl, hbl⟩
end Go.Proofs.YtandfpghjbbalaaDoor

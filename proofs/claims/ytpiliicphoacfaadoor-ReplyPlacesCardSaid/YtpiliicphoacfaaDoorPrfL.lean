/-
  The reference's Split: plain facts.
  The reference's Split: the walk.
-/
import Derived.Test.YtpiliicphoacfaaDoorPrfJ
namespace Go.Proofs.YtpiliicphoacfaaDoor

open Go Go.RowKit
set_option maxRecDepth 100000

theorem hdr_lo (last : Nat) : ∀ (l : List Nat) (i : Nat) (C B : List Nat), (hdrL last l i C B).en = 0 ∨ ((hdrL last l i C B).en = 2 ∧ i ≤ (hdrL last l i C B).nx) ∨ ((hdrL last l i C B).en = 1 ∧ i < (hdrL last l i C B).nx) := by
  intro l
  induction l with
  | nil => intro i C B; exact .inl rfl
  | cons c l ih =>
    intro i C B
    have step : ∀ C' B', (hdrL last l (i + 1) C' B').en = 0 ∨ ((hdrL last l (i + 1) C' B').en = 2 ∧ i ≤ (hdrL last l (i + 1) C' B').nx) ∨ ((hdrL last l (i + 1) C' B').en = 1 ∧ i < (hdrL last l (i + 1) C' B').nx) := fun C' B' => by
      rcases ih (i + 1) C' B' with h | ⟨h, h2⟩ | ⟨h, h2⟩
      · exact .inl h
      · exact .inr (.inl ⟨h, by omega⟩)
      · exact .inr (.inr ⟨h, by omega⟩)
    unfold hdrL
    by_cases h1 : brkB c = true
    · rw [if_pos h1]; exact .inr (.inl ⟨rfl, Nat.le_refl _⟩)
    rw [if_neg h1]
    by_cases h2 : c < 32
    · rw [if_pos h2]; exact step _ _
    rw [if_neg h2]
    by_cases h3 : c % 128 = 127
    · rw [if_pos h3]; exact step _ _
    rw [if_neg h3]
    by_cases h4 : last ≤ c % 128
    · rw [if_pos h4]; exact .inr (.inr ⟨rfl, Nat.lt_succ_self i⟩)
    · rw [if_neg h4]; exact step _ _
theorem brkNx_lo (c k : Nat) : k ≤ brkNx c k ∧ brkNx c k ≤ k + 1 := by unfold brkNx; split <;> omega
theorem str_next (osc : Bool) (N : Nat) : ∀ (l : List Nat) (i : Nat) (D : List Nat), i + l.length = N → (strL osc l i D).nx < 0 ∨ ((i : Int) ≤ (strL osc l i D).nx ∧ (strL osc l i D).nx ≤ (N : Int)) := by
  intro l
  induction l with
  | nil => intro i D _; exact .inl (by show (-1 : Int) < 0; decide)
  | cons c l ih =>
    intro i D hN
    have hN' : i + 1 + l.length = N := by simp at hN; omega
    unfold strL
    by_cases h1 : c = 27
    · rw [if_pos h1]
      cases l with
      | nil => exact .inl (by show (-1 : Int) < 0; decide)
      | cons x l =>
        simp at hN'
        by_cases h2 : x % 128 = 92
        · simp only [if_pos h2]; exact .inr ⟨by omega, by omega⟩
        · simp only [if_neg h2]; exact .inr ⟨by omega, by omega⟩
    rw [if_neg h1]
    by_cases h2 : c = 7 ∧ osc = true
    · rw [if_pos h2]; exact .inr ⟨by show (i : Int) ≤ ((i + 1 : Nat) : Int); omega, by show ((i + 1 : Nat) : Int) ≤ _; omega⟩
    rw [if_neg h2]
    by_cases h3 : brkB c = true
    · rw [if_pos h3]
      have := brkNx_lo c i
      exact .inr ⟨by show (i : Int) ≤ ((brkNx c i : Nat) : Int); omega, by show ((brkNx c i : Nat) : Int) ≤ _; omega⟩
    rw [if_neg h3]
    rcases ih (i + 1) (if dataB c = true then D ++ [c] else D) hN' with h | ⟨h, h'⟩
    · exact .inl h
    · exact .inr ⟨by omega, h'⟩
theorem hdr_at {last : Nat} {s : List Nat} {k : Nat} (hk : k ≤ s.length) {h : Hd} (e : h = hdrL last (s.drop k) k [] []) : h.en = 0 ∨ (h.en = 2 ∧ k ≤ h.nx ∧ h.nx < s.length) ∨ (h.en = 1 ∧ k < h.nx ∧ h.nx ≤ s.length ∧ 0 < h.B.length) := by
  have h1 := hdr_lo last (s.drop k) k [] []
  have h2 := (hdrF last s k hk).en
  rw [← e] at h1 h2
  omega
theorem seqB_next (s : List Nat) (kd : Nat) (C : List Nat) (nx : Nat) (hn : nx ≤ s.length) : (seqB s kd C nx).2 < 0 ∨ ((nx : Int) ≤ (seqB s kd C nx).2 ∧ (seqB s kd C nx).2 ≤ (s.length : Int)) := by
  have h := hdr_at hn (last := 64) rfl
  unfold seqB
  generalize hdrL 64 (s.drop nx) nx [] [] = g at *
  dsimp only
  rcases h with h | ⟨h, h1, h2⟩ | ⟨h, h1, h2, _⟩
  · rw [if_pos h]; exact .inl (by show (-1 : Int) < 0; decide)
  · rw [if_neg (by omega), if_pos h]
    have := brkNx_lo (s.getD g.nx 0) g.nx
    exact .inr ⟨by show (nx : Int) ≤ ((brkNx (s.getD g.nx 0) g.nx : Nat) : Int); omega, by show ((brkNx (s.getD g.nx 0) g.nx : Nat) : Int) ≤ _; omega⟩
  · rw [if_neg (by omega), if_neg (by omega)]
    split
    · rcases str_next ((kd : Int) == 6) s.length (s.drop g.nx) g.nx [] (by simp; omega) with q | ⟨q, q'⟩
      · exact .inl q
      · exact .inr ⟨by show (nx : Int) ≤ (strL _ _ _ _).nx; omega, q'⟩
    · exact .inr ⟨by show (nx : Int) ≤ (g.nx : Int); omega, by show (g.nx : Int) ≤ _; omega⟩
theorem seq_next (s : List Nat) (k : Nat) (hk : k ≤ s.length) : (seqP s k).2 < 0 ∨ ((k : Int) ≤ (seqP s k).2 ∧ (seqP s k).2 ≤ (s.length : Int)) := by
  have h := hdr_at hk (last := 48) rfl
  rw [seqP_eq]
  unfold seqA
  generalize hdrL 48 (s.drop k) k [] [] = g at *
  rcases h with h | ⟨h, h1, h2⟩ | ⟨h, h1, h2, _⟩
  · rw [if_pos h]; exact .inl (by show (-1 : Int) < 0; decide)
  · rw [if_neg (by omega), if_pos h]
    have := brkNx_lo (s.getD g.nx 0) g.nx
    exact .inr ⟨by show (k : Int) ≤ ((brkNx (s.getD g.nx 0) g.nx : Nat) : Int); omega, by show ((brkNx (s.getD g.nx 0) g.nx : Nat) : Int) ≤ _; omega⟩
  · rw [if_neg (by omega), if_neg (by omega)]
    split
    · exact .inr ⟨by show (k : Int) ≤ (g.nx : Int); omega, by show (g.nx : Int) ≤ _; omega⟩
    · split
      · rcases str_next ((begunP (g.B.getD (g.B.length - 1) 0) : Int) == 6) s.length (s.drop g.nx) g.nx [] (by simp; omega) with q | ⟨q, q'⟩
        · exact .inl q
        · exact .inr ⟨by show (k : Int) ≤ (strL _ _ _ _).nx; omega, q'⟩
      · rcases seqB_next s (begunP (g.B.getD (g.B.length - 1) 0)) g.C g.nx h2 with q | ⟨q, q'⟩
        · exact .inl q
        · exact .inr ⟨by omega, q'⟩
def oneT (c : Nat) : List Tok := if 32 ≤ c then [prtT c] else if c ≠ 24 then [ctlT c] else []
/-- The reference's Split, from a place on. -/
def splW (s : List Nat) (i : Nat) : List Tok × Bool :=
  if h : i < s.length then
    if s[i] = 27 then
      if hn : (seqP s (i + 1)).2 < 0 then ((seqP s (i + 1)).1, true)
      else ((seqP s (i + 1)).1 ++ (splW s (seqP s (i + 1)).2.toNat).1, (splW s (seqP s (i + 1)).2.toNat).2)
    else (oneT s[i] ++ (splW s (i + 1)).1, (splW s (i + 1)).2)
  else ([], false)
termination_by s.length - i
decreasing_by
  all_goals (have := seq_next s (i + 1) (by omega); omega)
theorem brkC_len (c : Nat) (C : List Nat) : (brkC c C).length ≤ C.length + 1 := by unfold brkC; split <;> simp
theorem strT_len (t : Tok) (g : Bool) (r : St) (C : List Nat) : (strT t g r C).length ≤ C.length + 1 := by
  unfold strT
  split
  · rw [List.length_append, List.length_map]
    split <;> simp
  · split
    · rw [List.length_map]; exact brkC_len _ _
    · simp
theorem seq_len (s : List Nat) (k : Nat) (hk : k ≤ s.length) : (seqP s k).1.length ≤ 2 * s.length + 2 := by
  have hC := (hdrF 48 s k hk).C
  have hx := hdr_at hk (last := 48) rfl
  rw [seqP_eq]
  unfold seqA
  generalize hdrL 48 (s.drop k) k [] [] = h at *
  have b1 := brkC_len (s.getD h.nx 0) h.C
  split
  · simp; omega
  · split
    · show (List.map _ _).length ≤ _
      rw [List.length_map]
      omega
    · split
      · rw [List.length_append, List.length_map]
        split <;> simp <;> omega
      · split
        · have := strT_len ⟨(begunP (h.B.getD (h.B.length - 1) 0) : Int), 0, 0, [], ⟨#[]⟩, []⟩ true (strL ((begunP (h.B.getD (h.B.length - 1) 0) : Int) == 6) (s.drop h.nx) h.nx []) h.C
          dsimp only at this ⊢
          omega
        · have hnx : h.nx ≤ s.length := by omega
          have hG := (hdrF 64 s h.nx hnx).C
          unfold seqB
          generalize hdrL 64 (s.drop h.nx) h.nx [] [] = g at *
          dsimp only
          have b2 := brkC_len (s.getD g.nx 0) (h.C ++ g.C)
          rw [List.length_append] at b2
          split
          · simp; omega
          · split
            · show (List.map _ _).length ≤ _
              rw [List.length_map]
              omega
            · split
              · have := strT_len (parsP (begunP (h.B.getD (h.B.length - 1) 0) : Int) g.B).1 (parsP (begunP (h.B.getD (h.B.length - 1) 0) : Int) g.B).2 (strL ((begunP (h.B.getD (h.B.length - 1) 0) : Int) == 6) (s.drop g.nx) g.nx []) (h.C ++ g.C)
                rw [List.length_append] at this
                dsimp only at this ⊢
                omega
              · dsimp only
                rw [List.length_append, List.length_map, List.length_append]
                split <;> simp <;> omega
theorem plainL_lt (ns : List Nat) (h : ∀ x ∈ ns, x < 256) : ∀ x ∈ plainL ns, x < 256 := fun x hx => by
  unfold plainL at hx
  obtain ⟨c, hc, hx⟩ := List.mem_flatMap.1 hx
  have := h c hc
  unfold plainC at hx
  split at hx
  · simp at hx
  · split at hx
    · simp at hx; omega
    · simp at hx; omega
theorem OTk.keepT {w w' : World} {base b n sz : Nat} {v u : Value} {t : Tok} {T : TypeId} {xs : List Value} (h : OTk w base v t) (ho : w.ownsRow b T sz u n xs) (h1 : 3 ≠ T) (h2 : 5 ≠ T) (hg : w.grownBy w' u.ownBlock) : OTk w' base v t := by
  obtain ⟨A, c, B, d, e, g1, g2⟩ := h
  exact ⟨A, c, B, d, e, World.ownsRow.kept g1 hg (own_apart g1 ho h1), World.ownsRow.kept g2 hg (own_apart g2 ho h2)⟩
theorem OTl.keepT {w w' : World} {base b n sz : Nat} {u : Value} {T : TypeId} {ys : List Value} (ho : w.ownsRow b T sz u n ys) (h1 : 3 ≠ T) (h2 : 5 ≠ T) (hg : w.grownBy w' u.ownBlock) : ∀ {xs : List (Array Value)} {ts : List Tok}, OTl w base xs ts → OTl w' base xs ts
  | [], [], _ => trivial
  | _ :: _, _ :: _, h => ⟨h.1.keepT ho h1 h2 hg, OTl.keepT ho h1 h2 hg h.2⟩
/-- Some tokens more. -/
theorem OTr.push {w w' : World} {base : Nat} {u v : Value} {O ts : List Tok} {xs ys : List (Array Value)} (ho : w.ownsRow base 31 6 u O.length (xs.flatMap Array.toList)) (hl : OTl w base xs O) (hY : OTl w base ys ts)
    (hown : w'.ownsRow base 31 6 v (O.length + ts.length) (xs.flatMap Array.toList ++ ys.flatMap Array.toList)) (hg : w.grownBy w' u.ownBlock) : OTr w' base v (O ++ ts) :=
  ⟨xs ++ ys, by rw [List.length_append, List.flatMap_append]; exact hown, OTl.app (hl.keepT ho (by decide) (by decide) hg) (hY.keepT ho (by decide) (by decide) hg)⟩
end Go.Proofs.YtpiliicphoacfaaDoor

namespace Go.Proofs.YtpiliicphoacfaaDoor

open Go Go.RowKit
set_option maxRecDepth 100000

theorem splW_esc {s : List Nat} {i : Nat} (h : i < s.length) (h27 : s[i] = 27) : splW s i = if (seqP s (i + 1)).2 < 0 then ((seqP s (i + 1)).1, true) else ((seqP s (i + 1)).1 ++ (splW s (seqP s (i + 1)).2.toNat).1, (splW s (seqP s (i + 1)).2.toNat).2) := by
  rw [splW, dif_pos h, if_pos h27]
  split <;> rfl
theorem splW_one {s : List Nat} {i : Nat} (h : i < s.length) (h27 : s[i] ≠ 27) : splW s i = (oneT s[i] ++ (splW s (i + 1)).1, (splW s (i + 1)).2) := by
  rw [splW, dif_pos h, if_neg h27]
theorem splW_end {s : List Nat} {i : Nat} (h : ¬ i < s.length) : splW s i = ([], false) := by rw [splW, dif_neg h]
theorem pt2 {W : World} {b : Nat} {T : TypeId} {x y : Value} (h : Blk W b T #[x, y]) : W.cell? ⟨b, 0, none⟩ = some x ∧ W.cell? ⟨b, 1, none⟩ = some y := ⟨h.cell 0, h.cell 1⟩
def onX (k : Int) (c : Nat) : Array Value := #[.int .i64 k, .int .u8 (c : Int), .int .u8 0, .slice none 0 0, .string ⟨#[]⟩, .slice none 0 0]
theorem onX_one (k : Int) (c : Nat) : ∀ u ∈ ([.int .i64 k, .int .u8 (c : Int), .int .u8 0, .slice none 0 0, .string ⟨#[]⟩, .slice none 0 0] : List Value), u.oneCell' = true := by simp [Value.oneCell']
/-- What is known in the midst of Split. -/
structure SpW (w1 W : World) (v : Value) (O : List Tok) : Prop where
  out : OTr W w1.heap.size v O
  bel : Below w1.heap.size w1 W
set_option maxRecDepth 100000 in
set_option maxHeartbeats 16000000 in
theorem refSplit_any (A : Option Addr) (cap : Nat) (ns : List Nat) (hn : ∀ x ∈ ns, x < 256) (hl : ns.length ≤ 200000) (w : World) (hr : RByt w A ns) :
    Calls Tryd.prog 18 #[.slice A ns.length cap] w (fun e w' => (∃ v, e = .returned (.tuple #[v, .bool (splW (plainL ns) 0).2]) ∧ OTr w' w.heap.size v (splW (plainL ns) 0).1) ∧ Below w.heap.size w w') := by
  have HPl := Lib.hid (plain_any A cap ns hn (by omega) w hr)
  have hsl := plainL_len ns
  have HN := Lib.hid (plainL_lt ns hn)
  clear hn hr
  have hsl2 : (plainL ns).length ≤ 400000 := by omega
  clear hsl hl
  generalize plainL ns = s at *
  obtain ⟨T0, hT0⟩ : ∃ T0, T0 = splW s 0 := ⟨_, rfl⟩
  rw [← hT0]
  have HT0 := Lib.hid hT0
  clear hT0
  obtain ⟨M, hM⟩ : ∃ M, M = 2 * s.length + 2 := ⟨_, rfl⟩
  have HM := Lib.hid hM
  clear hM
  obtain ⟨i0, hi0, hi1, hi2, hi3⟩ := info_rtk
  have HI := Lib.hid (And.intro hi0 (And.intro hi1 (And.intro hi2 hi3)))
  have HCt := Lib.hid (fun c W => refctrl_any c W)
  clear hi0 hi1 hi2 hi3
  go_enter Tryd.func18, Tryd.ntmps18
  go_wp2_with fail
  refine HPl.out.mono ?_
  rintro e w1 ⟨v1, rfl, ho1, hb1⟩
  obtain ⟨A1, c1, e1, hc1⟩ := own_form ho1
  subst e1
  have HS := Lib.hid (show RByt w1 A1 s from Reads.of_own ho1)
  have HB1 := Lib.hid hb1
  have HSq := Lib.hid (fun k hk W h => seq_any A1 c1 s hsl2 HN.out k hk W h)
  clear ho1 hb1 HPl
  --#0
  go_upto_region 4 with fail
  go_loopw [5, 6] (fun v j wr => ∃ (i : Nat) (O : List Tok), i ≤ s.length ∧ j = .int .i64 i ∧ SpW w1 wr v O ∧ O.length ≤ i * M ∧ O ++ (splW s i).1 = T0.1 ∧ (splW s i).2 = T0.2) (fun _ j _ => s.length - (intOf j).toNat)
  case atStart => exact ⟨0, [], by omega, rfl, ⟨⟨[], World.ownsRow_nil _ _ _ _, trivial⟩, Below.refl _ _⟩, by simp, by rw [HT0.out]; rfl, by rw [HT0.out]⟩
  case round =>
    obtain ⟨i, O, hi, rfl, hw, hO, ht1, ht2⟩ := hrel
    have HW := Lib.hid hw
    have HO := Lib.hid hO
    have HT := Lib.hid (And.intro ht1 ht2)
    clear hw hO ht1 ht2 HT0
    obtain ⟨xs, hox, hlx⟩ := HW.out.out
    obtain ⟨Au, cu, rfl⟩ := own_formS hox
    have HOx := Lib.hid hox; have HLx := Lib.hid hlx
    clear hox hlx
    have HOs : Hid (O.length ≤ 400000 * 800002) := Lib.hid (Nat.le_trans HO.out (Nat.le_trans (Nat.mul_le_mul_right M (show i ≤ 400000 by omega)) (Nat.mul_le_mul_left 400000 (show M ≤ 800002 by have := HM.out; omega))))
    by_cases hlt : i < s.length
    · have hwi : IntKind.i64.wrap ((i : Int) + 1) = (i : Int) + 1 := IntWalk.i64_in _ (by omega)
      have k0 : (0 : Int) ≤ (i : Int) := by omega
      have k1 : ((i : Int) < (s.length : Int)) = True := eq_true (by omega)
      obtain ⟨ad, ea, _, hc⟩ := RByt.at_ (HS.out.next HW.out.bel) hlt
      by_cases h27 : s[i] = 27
      · have e27 : ((s[i] : Int) == 27) = true := by simp; omega
        have HT2 := Lib.hid (splW_esc hlt h27)
        have HNx := Lib.hid (seq_next s (i + 1) (by omega))
        have HLn := Lib.hid (seq_len s (i + 1) (by omega))
        have HQ := Lib.hid (HSq.out (i + 1) (by omega) wr (HS.out.next HW.out.bel))
        generalize seqP s (i + 1) = r at *
        obtain ⟨ts, nx⟩ := r
        dsimp only at HT2 HNx HLn HQ
        generalize s[i] = c at *
        clear h27
        subst ea
        --#1
        go_wp2_with fail
        refine HQ.out.mono ?_
        rintro e w2 ⟨v2, rfl, ho2, hb2⟩
        dsimp only at ho2 ⊢
        obtain ⟨ys, ho2, hl2⟩ := ho2
        obtain ⟨A2, c2, rfl⟩ := own_formS ho2
        have hal3 : Below w2.heap.size w2 (w2.alloc (.cells #[.slice A2 ts.length c2, .int .i64 nx] 69)) := (Below.refl _ _).alloc (Nat.le_refl _) _
        have HX3 := Lib.hid (Blk.new w2 69 #[.slice A2 ts.length c2, .int .i64 nx])
        have hb3 := hb2.trans (hal3.mono hb2.size)
        have HB3 := Lib.hid (HW.out.bel.trans (hb3.mono HW.out.bel.size))
        have HO3 := Lib.hid (own_more HOx.out hb3)
        have HL3 := Lib.hid (HLx.out.keep (row := none) (grown_below hb3) (fun k hk => by cases hk))
        have HY3 := Lib.hid ((OTl.keep (row := none) (grown_below hal3) (fun k hk => by cases hk) hl2).more HW.out.bel.size)
        have HRd := Lib.hid (Reads.of_own (own_more ho2 hal3))
        have HY1 := Lib.hid (rt_one (RTl.of_own hl2))
        have HMx : Hid (O.length + ts.length ≤ maxLen) := Lib.hid (by have := HOs.out; have := HLn.out; unfold maxLen; omega)
        have HBy : Hid ((O.length + ts.length) * i0.bytes ≤ 140737488355328) := Lib.hid (Nat.le_trans (Nat.mul_le_mul (show O.length + ts.length ≤ 400000 * 800002 + 800002 by have := HOs.out; have := HLn.out; omega) HI.out.2.2.2) (by decide))
        have HBz : Hid (w1.heap.size ≤ (w2.alloc (.cells #[.slice A2 ts.length c2, .int .i64 nx] 69)).heap.size) := Lib.hid HB3.out.size
        clear ho2 hl2 hb2 hb3 hal3 HQ hc e27
        --#2
        go_upto_region 8 with fail
        generalize w2.alloc (.cells #[.slice A2 ts.length c2, .int .i64 nx] 69) = w3 at *
        generalize w2.heap.size = pb at *
        obtain ⟨p0, p1⟩ := pt2 HX3.out
        --#3
        go_upto_region 9 with (at_builtin; refine wpList_append_any _ rfl _ _ 22 rfl w1.heap.size 31 i0 _ 6 i0.bytes Tryd.underlying22 HI.out.1 HI.out.2.1 HI.out.2.2.1 rfl rfl (by decide) _ O.length _ rfl HO3.out _ A2 ts.length c2 _ rfl HRd.out HY1.out HMx.out HBy.out HBz.out ?_; intro v6 w6 hown6 hg6 _; obtain ⟨A6, c6, rfl⟩ := own_formS hown6; have HO6 := Lib.hid hown6; have HG6 := Lib.hid hg6; clear hown6 hg6)
        --#4
        have HX6 := Lib.hid ((HG6.out.block _ HX3.out.lt (fun e => own_ty HO3.out HX3.out (by decide) e.symm)).trans HX3.out)
        have HW6 : Hid (SpW w1 w6 (.slice A6 (O.length + ts.length) c6) (O ++ ts)) := Lib.hid ⟨OTr.push HO3.out HL3.out HY3.out HO6.out HG6.out, below_row HB3.out HG6.out (own_ge HO3.out) HB3.out.size⟩
        clear p0 p1 HX3 HO3 HL3 HY3 HRd HY1 HO6 HG6 HB3 HBz HMx HBy
        obtain ⟨p0, p1⟩ := pt2 HX6.out
        by_cases hneg : nx < 0
        · have n1 : (nx < 0) = True := eq_true hneg
          have HE : Hid (O ++ ts = T0.1 ∧ true = T0.2) := Lib.hid (by
            have h := HT.out
            rw [HT2.out, if_pos hneg] at h
            exact h)
          --#5
          go_wp2_with fail
          refine bodyPost_ret (results_tmp2 rfl _ _ _) rfl ?_
          refine ⟨⟨.slice A6 (O.length + ts.length) c6, by rw [← HE.out.2]; rfl, ?_⟩, HB1.out.trans (HW6.out.bel.mono HB1.out.size)⟩
          rw [← HE.out.1]
          exact HW6.out.out.more HB1.out.size
        · have n1 : (nx < 0) = False := eq_false hneg
          obtain ⟨m, hm⟩ : ∃ m : Nat, nx = (m : Int) := ⟨nx.toNat, by omega⟩
          have HE : Hid ((O ++ ts) ++ (splW s m).1 = T0.1 ∧ (splW s m).2 = T0.2) := Lib.hid (by
            have h := HT.out
            rw [HT2.out, if_neg hneg, show nx.toNat = m by omega] at h
            exact ⟨by rw [← h.1, List.append_assoc], h.2⟩)
          have HMm : Hid (i + 1 ≤ m ∧ m ≤ s.length) := Lib.hid (by have := HNx.out; omega)
          have HLm : Hid ((O ++ ts).length ≤ m * M) := Lib.hid (by
            have h1 := HO.out; have h2 := HLn.out; have h3 := HM.out
            have h4 : (i + 1) * M ≤ m * M := Nat.mul_le_mul_right M HMm.out.1
            rw [Nat.succ_mul] at h4
            rw [List.length_append]
            omega)
          clear HNx HT2 hneg
          subst hm
          --#6
          go_wp2_with fail
          go_roundw
          case rel => exact ⟨m, O ++ ts, HMm.out.2, rfl, HW6.out, HLm.out, HE.out.1, HE.out.2⟩
          case measure => have := HMm.out; simp [intOf]; omega
      · have e27 : ((s[i] : Int) == 27) = false := by simp; omega
        have HT2 := Lib.hid (splW_one hlt h27)
        have HE : Hid ((O ++ oneT s[i]) ++ (splW s (i + 1)).1 = T0.1 ∧ (splW s (i + 1)).2 = T0.2) := Lib.hid (by
          have h := HT.out
          rw [HT2.out] at h
          exact ⟨by rw [← h.1, List.append_assoc], h.2⟩)
        have HM1 : Hid (1 ≤ M) := Lib.hid (by have := HM.out; omega)
        generalize s[i] = c at *
        clear HT2 h27
        subst ea
        have HMx : Hid (O.length + 1 ≤ maxLen) := Lib.hid (by have := HOs.out; unfold maxLen; omega)
        have HBy : Hid ((O.length + 1) * i0.bytes ≤ 140737488355328) := Lib.hid (Nat.le_trans (Nat.mul_le_mul (show O.length + 1 ≤ 400000 * 800002 + 800002 by have := HOs.out; omega) HI.out.2.2.2) (by decide))
        by_cases h32 : 32 ≤ c
        · have l1 : ((32 : Int) ≤ (c : Int)) = True := eq_true (by omega)
          have HE2 : Hid (oneT c = [prtT c]) := Lib.hid (by unfold oneT; rw [if_pos h32])
          have hal : Below wr.heap.size wr (wr.alloc (.cells #[.int .i64 1, .int .u8 (c : Int), .int .u8 0, .slice none 0 0, .string ⟨#[]⟩, .slice none 0 0] 31)) := (Below.refl _ _).alloc (Nat.le_refl _) _
          have HB3 := Lib.hid (HW.out.bel.trans (hal.mono HW.out.bel.size))
          have HO3 := Lib.hid (own_more HOx.out hal)
          have HL3 := Lib.hid (HLx.out.keep (row := none) (grown_below hal) (fun k hk => by cases hk))
          have HRd := Lib.hid (row_reads wr 31 [.int .i64 1, .int .u8 (c : Int), .int .u8 0, .slice none 0 0, .string ⟨#[]⟩, .slice none 0 0] 1 6 rfl)
          have HBz : Hid (w1.heap.size ≤ (wr.alloc (.cells #[.int .i64 1, .int .u8 (c : Int), .int .u8 0, .slice none 0 0, .string ⟨#[]⟩, .slice none 0 0] 31)).heap.size) := Lib.hid HB3.out.size
          clear hal
          --#7
          go_wp2_with (at_builtin; refine wpList_append_any _ rfl _ _ 22 rfl w1.heap.size 31 i0 _ 6 i0.bytes Tryd.underlying22 HI.out.1 HI.out.2.1 HI.out.2.2.1 rfl rfl (by decide) _ O.length _ rfl HO3.out _ (some ⟨wr.heap.size, 0, none⟩) 1 1 _ rfl HRd.out (onX_one 1 c) HMx.out HBy.out HBz.out ?_; intro v6 w6 hown6 hg6 _)
          go_roundw
          case rel => exact ⟨i + 1, O ++ [prtT c], by omega, by go_num, ⟨OTr.push (ys := [onX 1 c]) (ts := [prtT c]) HO3.out HL3.out ⟨otkP _ _ c, trivial⟩ (by simpa [onX] using hown6) hg6, below_row HB3.out hg6 (own_ge HO3.out) HB3.out.size⟩, by have := HO.out; have := HM1.out; rw [List.length_append, Nat.succ_mul]; simp; omega, by rw [← HE2.out]; exact HE.out.1, HE.out.2⟩
          case measure => simp [intOf]; omega
        · have l1 : ((32 : Int) ≤ (c : Int)) = False := eq_false (by omega)
          by_cases h24 : c = 24
          · have l2 : ((c : Int) != 24) = false := by simp; omega
            have HE2 : Hid (oneT c = []) := Lib.hid (by unfold oneT; rw [if_neg h32, if_neg (by omega)])
            clear h24
            --#8
            go_wp2_with fail
            go_roundw
            case rel => exact ⟨i + 1, O, by omega, by go_num, HW.out, by have := HO.out; rw [Nat.succ_mul]; omega, by have := HE.out.1; rw [HE2.out, List.append_nil] at this; exact this, HE.out.2⟩
            case measure => simp [intOf]; omega
          · have l2 : ((c : Int) != 24) = true := by simp; omega
            have HE2 : Hid (oneT c = [ctlT c]) := Lib.hid (by unfold oneT; rw [if_neg h32, if_pos h24])
            have HCc := Lib.hid (HCt.out c)
            unfold ctlX at HCc
            --#9
            go_wp2_with fail
            refine (HCc.out _).mono ?_
            rintro e w2 ⟨rfl, hb2⟩
            have hal : Below w2.heap.size w2 (w2.alloc (.cells #[.int .i64 2, .int .u8 (c : Int), .int .u8 0, .slice none 0 0, .string ⟨#[]⟩, .slice none 0 0] 31)) := (Below.refl _ _).alloc (Nat.le_refl _) _
            have hb3 := hb2.trans (hal.mono hb2.size)
            have HB3 := Lib.hid (HW.out.bel.trans (hb3.mono HW.out.bel.size))
            have HO3 := Lib.hid (own_more HOx.out hb3)
            have HL3 := Lib.hid (HLx.out.keep (row := none) (grown_below hb3) (fun k hk => by cases hk))
            have HRd := Lib.hid (row_reads w2 31 [.int .i64 2, .int .u8 (c : Int), .int .u8 0, .slice none 0 0, .string ⟨#[]⟩, .slice none 0 0] 1 6 rfl)
            have HBz : Hid (w1.heap.size ≤ (w2.alloc (.cells #[.int .i64 2, .int .u8 (c : Int), .int .u8 0, .slice none 0 0, .string ⟨#[]⟩, .slice none 0 0] 31)).heap.size) := Lib.hid HB3.out.size
            clear hal hb2 hb3 hc
            --#10
            go_wp2_with (at_builtin; refine wpList_append_any _ rfl _ _ 22 rfl w1.heap.size 31 i0 _ 6 i0.bytes Tryd.underlying22 HI.out.1 HI.out.2.1 HI.out.2.2.1 rfl rfl (by decide) _ O.length _ rfl HO3.out _ (some ⟨w2.heap.size, 0, none⟩) 1 1 _ rfl HRd.out (onX_one 2 c) HMx.out HBy.out HBz.out ?_; intro v6 w6 hown6 hg6 _)
            go_roundw
            case rel => exact ⟨i + 1, O ++ [ctlT c], by omega, by go_num, ⟨OTr.push (ys := [ctlX c]) (ts := [ctlT c]) HO3.out HL3.out ⟨otkC _ _ c, trivial⟩ (by simpa [ctlX] using hown6) hg6, below_row HB3.out hg6 (own_ge HO3.out) HB3.out.size⟩, by have := HO.out; have := HM1.out; rw [List.length_append, Nat.succ_mul]; simp; omega, by rw [← HE2.out]; exact HE.out.1, HE.out.2⟩
            case measure => simp [intOf]; omega
    · obtain rfl : i = s.length := by omega
      have k1 : ((s.length : Int) < (s.length : Int)) = False := eq_false (by omega)
      have HE : Hid (O = T0.1 ∧ false = T0.2) := Lib.hid (by
        have h := HT.out
        rw [splW_end (Nat.lt_irrefl _), List.append_nil] at h
        exact h)
      --#11
      go_wp2_with fail
      refine bodyPost_ret (results_tmp2 rfl _ _ _) rfl ?_
      refine ⟨⟨.slice Au O.length cu, by rw [← HE.out.2]; rfl, ?_⟩, HB1.out.trans (HW.out.bel.mono HB1.out.size)⟩
      rw [← HE.out.1]
      exact HW.out.out.more HB1.out.size
end Go.Proofs.YtpiliicphoacfaaDoor

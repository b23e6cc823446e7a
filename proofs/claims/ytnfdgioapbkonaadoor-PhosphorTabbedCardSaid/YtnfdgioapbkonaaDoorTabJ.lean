/-
  The walk of stops: the n-th one to the left.
-/
import Derived.Test.YtnfdgioapbkonaaDoorTabI
namespace Go.Proofs.YtnfdgioapbkonaaDoor

open Go Go.RowKit Go.Shelf
attribute [local go_sem] Oper.semAt_some

/-- The n-th stop to the left, or the first column. -/
def backP (h : Nat → Bool) (n : Nat) (col k : Int) : Int := if k < 1 then nearP n col else match (leftL h col n)[(k - 1).toNat]? with | some a => a | none => 0
theorem backP_small (h : Nat → Bool) (n : Nat) (col k : Int) (hk : k < 1) : backP h n col k = nearP n col := if_pos hk
theorem backP_some (h : Nat → Bool) (n : Nat) (col k : Int) (hk : ¬ k < 1) (a : Nat) (e : (leftL h col n)[(k - 1).toNat]? = some a) : backP h n col k = a := by unfold backP; rw [if_neg hk, e]
theorem backP_none (h : Nat → Bool) (n : Nat) (col k : Int) (hk : ¬ k < 1) (e : (leftL h col n)[(k - 1).toNat]? = none) : backP h n col k = 0 := by unfold backP; rw [if_neg hk, e]

theorem cell_new_t (W : World) (v : Value) (t : TypeId) : (W.alloc (.cells #[v] t)).cell? ⟨W.heap.size, 0, none⟩ = some v ∧ (W.alloc (.cells #[v] t)).frozen? ⟨W.heap.size, 0, none⟩ = false :=
  ⟨(Blk.new W t #[v]).cell 0, (Blk.new W t #[v]).frozen 0⟩
theorem cell_alloc_t {W : World} {a : Addr} {v : Value} (o : Obj) (h : W.cell? a = some v) : (W.alloc o).cell? a = some v := cell_kept h (World.grownBy_alloc W o none) (fun r e => by cases e)
theorem frozen_alloc_t {W : World} {a : Addr} {v : Value} (o : Obj) (h : W.cell? a = some v) (hf : W.frozen? a = false) : (W.alloc o).frozen? a = false := (frozen_kept h (World.grownBy_alloc W o none) (fun r e => by cases e)).trans hf
/-- What a round of the caller's keeps: all that is old, and the two boxes of the iterator's. -/
def KpT (s : Nat) (A A' : World) : Prop := Below s A A' ∧ ∀ k, s + 2 ≤ k → k < s + 4 → A'.heap[k]? = A.heap[k]?
theorem KpT.trans {s : Nat} {A B C : World} (h : KpT s A B) (k : KpT s B C) : KpT s A C := ⟨h.1.trans k.1, fun i h1 h2 => (k.2 i h1 h2).trans (h.2 i h1 h2)⟩
theorem KpT.refl (s : Nat) (A : World) : KpT s A A := ⟨Below.refl _ _, fun _ _ _ => rfl⟩
theorem KpT.set {s b : Nat} {A A' : World} (h : KpT s A A') (h1 : s ≤ b) (h2 : b < s + 2) (v : Value) : KpT s A (A'.setCell ⟨b, 0, none⟩ v) :=
  ⟨h.1.setCell (p := ⟨b, 0, none⟩) h1 _, fun k k1 k2 => (Below.heap_setCell A' ⟨b, 0, none⟩ v k (by show k ≠ b; omega)).trans (h.2 k k1 k2)⟩
/-- What the iterator wants of a world. -/
def RT (s B n : Nat) (h : Nat → Bool) (A : World) : Prop := Blk A (s + 2) 24 #[.pointer (some ⟨B, 0, none⟩)] ∧ Stp A B n h ∧ B < s ∧ s + 4 ≤ A.heap.size
theorem RT.below {s B n : Nat} {h : Nat → Bool} {A A' : World} (r : RT s B n h A) (hb : Below A.heap.size A A') : RT s B n h A' := ⟨r.1.next hb, r.2.1.next hb, r.2.2.1, Nat.le_trans r.2.2.2 hb.size⟩
theorem RT.kept {s B n : Nat} {h : Nat → Bool} {A A' : World} (r : RT s B n h A) (hk : KpT s A A') : RT s B n h A' :=
  ⟨(hk.2 (s + 2) (Nat.le_refl _) (by omega)).trans r.1, let ⟨ws, h1, h2⟩ := r.2.1; ⟨ws, h1.below hk.1 r.2.2.1, h2⟩, r.2.2.1, Nat.le_trans r.2.2.2 hk.1.size⟩

theorem left_stops (f : Nat) (hf : 1 ≤ f) (s B n : Nat) (h : Nat → Bool) (col : Int) (w : World) (hr : RT s B n h w) (hc : w.cell? ⟨s + 3, 0, none⟩ = some (.int .i64 col)) :
    SeqStopsK Fence.wide f Tryd.prog 41 #[.pointer (some ⟨s + 3, 0, none⟩), .pointer (some ⟨s + 2, 0, none⟩)] (fun x : Nat => #[Value.int .i64 (x : Int)]) (KpT s) (fun ys => ys = leftL h col n) (fun pre => pre <+: leftL h col n) (leftL h col n).length w := fun l J Jx W hW hJ _ hY h0 =>
  leftOf1_in f hf l (s + 3) (s + 2) B n h col (KpT s) (RT s B n h) J Jx (fun A r => ⟨r.1.cell 0, r.2.1⟩) (fun _ _ r hb => r.below hb) (fun _ _ r hk => r.kept hk) hY W ((hW.cell (p := ⟨s + 3, 0, none⟩) (by have := hr.2.2.2; show s + 3 < _; omega)).trans hc) (hr.below hW) hJ h0

set_option maxRecDepth 100000 in
set_option maxHeartbeats 4000000 in
theorem back_in (f : Nat) (hf : 3 ≤ f) (B n : Nat) (h : Nat → Bool) (col k0 : Int) (hk : ¬ k0 < 1) (hless : Less k0) (w : World) (s : Stp w B n h) :
    CallsIn Fence.wide f Tryd.prog 17 #[.pointer (some ⟨B, 0, none⟩), .int .i64 col, .int .i64 k0] w fun e w' => e = .returned (.int .i64 (backP h n col k0)) ∧ Below w.heap.size w w' := by
  have h1 : 1 ≤ f := by omega
  have hd : decide (k0 < 1) = false := by simpa using hk
  have HS := Lib.hid s
  refine callsIn_of_wp_marks Tryd.func17 rfl trivial ?_ rfl
  simp only [Tryd.ntmps17, List.size_toArray, List.length_cons, List.length_nil, Nat.reduceAdd, Nat.reduceSub, Array.replicate_succ, Array.replicate_zero, List.push_toArray, List.append_toArray, List.nil_append, List.cons_append]
  gi_wp2_with (refine ⟨trivial, ?_⟩; gi_at_call 33; refine ((callsIn_wide (n := f - 1)).2 (leftOf_any B col _)).mono ?_; rintro e w' ⟨rfl, rfl⟩)
  have hk1 : 1 ≤ k0 := by omega
  have HK1 := Lib.hid hk1
  obtain ⟨W0, hW0⟩ : ∃ W0, ((((w.alloc (.cells #[.int .i64 k0] 3)).alloc (.cells #[.int .i64 0] 3)).alloc (.cells #[.pointer (some ⟨B, 0, none⟩)] 24)).alloc (.cells #[.int .i64 col] 3)) = W0 := ⟨_, rfl⟩
  have hz0 : W0.heap.size = w.heap.size + 4 := by rw [← hW0]; simp
  have hB0 : Below w.heap.size w W0 := by rw [← hW0]; exact ((((Below.refl _ w).alloc (Nat.le_refl _) _).alloc (by simp) _).alloc (by simp; omega) _).alloc (by simp; omega) _
  have b0 := Blk.new w 3 #[.int .i64 k0]
  have b1 := Blk.new (w.alloc (.cells #[.int .i64 k0] 3)) 3 #[.int .i64 0]
  have b2 := Blk.new ((w.alloc (.cells #[.int .i64 k0] 3)).alloc (.cells #[.int .i64 0] 3)) 24 #[.pointer (some ⟨B, 0, none⟩)]
  have b3 := Blk.new (((w.alloc (.cells #[.int .i64 k0] 3)).alloc (.cells #[.int .i64 0] 3)).alloc (.cells #[.pointer (some ⟨B, 0, none⟩)] 24)) 3 #[.int .i64 col]
  simp only [World.size_alloc] at b1 b2 b3
  replace b0 := ((b0.alloc (.cells #[.int .i64 0] 3)).alloc (.cells #[.pointer (some ⟨B, 0, none⟩)] 24)).alloc (.cells #[.int .i64 col] 3)
  replace b1 := (b1.alloc (.cells #[.pointer (some ⟨B, 0, none⟩)] 24)).alloc (.cells #[.int .i64 col] 3)
  replace b2 := b2.alloc (.cells #[.int .i64 col] 3)
  rw [hW0] at b0 b1 b2 b3 ⊢
  have hRT : RT w.heap.size B n h W0 := ⟨b2, HS.out.next hB0, HS.out.lt, by omega⟩
  have hc3 : W0.cell? ⟨w.heap.size + 3, 0, none⟩ = some (.int .i64 col) := b3.cell 0
  clear hW0 b2 b3 hk hd s
  refine wpIn_rangeFunc_ownF (F := Fence.wide) rfl h1 (gf := 41) (lb := #[.pointer (some ⟨w.heap.size + 3, 0, none⟩), .pointer (some ⟨w.heap.size + 2, 0, none⟩)]) rfl trivial (enters_of Tryd.func41 (by kernel_rfl) rfl)
    (left_stops (f - 1) (by omega) w.heap.size B n h col W0 hRT hc3) KpT.trans
    (fun W l o o' hl ho hoc how => ⟨belowK_b (w := W0) (by omega) W l o o' hl ho hoc how, fun k k1 k2 => (grownBy_putObj' W l o').block k (by have := (Array.getElem?_eq_some_iff.1 ho).1; omega) (by simp; omega)⟩) (Below.refl _ _) (fun _ => rfl)
    (fun pre W => ((pre.length : Int) < k0 ∧ W.cell? ⟨w.heap.size, 0, none⟩ = some (.int .i64 (k0 - pre.length)) ∧ W.frozen? ⟨w.heap.size, 0, none⟩ = false ∧ W.cell? ⟨w.heap.size + 1, 0, none⟩ = some (.int .i64 0) ∧ W.frozen? ⟨w.heap.size + 1, 0, none⟩ = false) ∧ Below w.heap.size w W)
    (fun c pre W => (c = .ret ∧ ∃ x : Nat, (pre.length : Int) = k0 ∧ pre[(k0 - 1).toNat]? = some x ∧ W.cell? ⟨w.heap.size + 1, 0, none⟩ = some (.int .i64 (x : Int))) ∧ Below w.heap.size w W)
    (OwnFrom.and (Own.from (fun s A B row hs hg hr => ⟨hs.1, cell_kept hs.2.1 hg hr, (frozen_kept hs.2.1 hg hr).trans hs.2.2.1, cell_kept hs.2.2.2.1 hg hr, (frozen_kept hs.2.2.2.1 hg hr).trans hs.2.2.2.2⟩) _) (ownFrom_below (Nat.le_refl _) (by omega)))
    (fun c => OwnFrom.and (Own.from (fun s A B row hs hg hr => ⟨hs.1, let ⟨x, h1, h2, h3⟩ := hs.2; ⟨x, h1, h2, cell_kept h3 hg hr⟩⟩) _) (ownFrom_below (Nat.le_refl _) (by omega)))
    ⟨⟨by simp; omega, by simpa using b0.cell 0, b0.frozen 0, b1.cell 0, b1.frozen 0⟩, hB0⟩
    (fun x => { tmps := #[.pointer (some ⟨B, 0, none⟩), .int .i64 col, .int .i64 k0, undef, undef, .pointer (some ⟨w.heap.size, 0, none⟩), .pointer (some ⟨w.heap.size + 1, 0, none⟩), .int .i64 (x : Int), .int .i64 k0, .bool false, undef, undef, undef, .pointer (some ⟨B, 0, none⟩), .int .i64 col, .func (.func 41) #[] #[.pointer (some ⟨w.heap.size + 3, 0, none⟩), .pointer (some ⟨w.heap.size + 2, 0, none⟩)], .int .i64 (x : Int), undef, undef, undef, undef, undef], defers := [] }) ?assign ?body ?done ?stop
  case assign =>
    intro l x W K hK
    gi_wp2
    exact hK
  case body =>
    rintro l pre x W ⟨⟨hp, hcn, hfn, hcr, hfr⟩, hB⟩ _
    have HB := Lib.hid hB
    have hw0 : IntKind.i64.wrap (k0 - (pre.length : Int) - 1) = k0 - pre.length - 1 := hless _ (by omega) (by omega)
    have HP := Lib.hid hp
    obtain ⟨m, hm⟩ : ∃ m, m = k0 - (pre.length : Int) := ⟨_, rfl⟩
    rw [← hm] at hw0 hcn
    have HM := Lib.hid hm
    have HW := Lib.hid hw0
    have HCr := Lib.hid hcr
    have HKp := Lib.hid (KpT.set (KpT.refl w.heap.size W) (b := w.heap.size) (Nat.le_refl _) (by omega) (.int .i64 (m - 1)))
    have HBs := Lib.hid (hB.setCell (p := ⟨w.heap.size, 0, none⟩) (Nat.le_refl _) (.int .i64 (m - 1)))
    have HC0 : Hid ((W.setCell ⟨w.heap.size, 0, none⟩ (.int .i64 (m - 1))).cell? ⟨w.heap.size, 0, none⟩ = some (.int .i64 (m - 1))) := Lib.hid (World.cell?_setCell_same' _ _ _ (by rw [hcn]; rfl))
    have HC1 : Hid ((W.setCell ⟨w.heap.size, 0, none⟩ (.int .i64 (m - 1))).cell? ⟨w.heap.size + 1, 0, none⟩ = some (.int .i64 0)) := Lib.hid ((World.cell?_setCell_other W _ _ _ (by simp)).trans hcr)
    clear hB hp hm hw0
    have hw := HW.out
    by_cases hl : m - 1 = 0
    · obtain rfl : m = 1 := by omega
      clear hw
      gi_wp2
      refine ⟨?_, ⟨rfl, x, ?_, ?_, ?_⟩, ?_⟩
      · exact (KeepsOthers.setCell _ _ _).trans (KeepsOthers.setCell _ _ _)
      · have := HM.out; simp; omega
      · have e : (k0 - 1).toNat = pre.length := by have := HM.out; omega
        rw [e, List.getElem?_append_right (Nat.le_refl _), Nat.sub_self]; rfl
      · exact World.cell?_setCell_same' _ _ _ (by rw [World.cell?_setCell_other W _ _ _ (by simp), HCr.out]; rfl)
      · exact (HB.out.setCell (p := ⟨w.heap.size, 0, none⟩) (Nat.le_refl _) _).setCell (p := ⟨w.heap.size + 1, 0, none⟩) (by simp) _
    · have hb0 : (m - 1 == 0) = false := by simpa using hl
      clear hl
      gi_wp2
      refine ⟨?_, HKp.out, ⟨⟨?_, ?_, ?_, ?_, ?_⟩, HBs.out⟩⟩
      · exact KeepsOthers.setCell _ _ _
      · have := HM.out; have := HP.out; simp at hb0; simp; omega
      · rw [HC0.out]; have := HM.out; simp; omega
      · rw [World.frozen?_setCell]; exact hfn
      · exact HC1.out
      · rw [World.frozen?_setCell]; exact hfr
  case done =>
    rintro D ys W hD rfl ⟨⟨hp, hcn, hfn, hcr, hfr⟩, hB⟩ hK
    have HP : Hid (backP h n col k0 = 0) := Lib.hid (backP_none h n col k0 (by omega) (List.getElem?_eq_none (by omega)))
    clear hp
    gi_wp2
    have hK' := (KeepsOthers.setCell W ⟨w.heap.size + 1, 0, none⟩ (.int .i64 0)).same D _ hK rfl
    refine ⟨by simp, .inl ⟨_, _, rfl, run_takeDeferred hK', ?_⟩⟩
    have hc5 := cell_kept (World.cell?_setCell_same' W ⟨w.heap.size + 1, 0, none⟩ (.int .i64 0) (by rw [hcr]; rfl)) (grownBy_putObj' _ D (.deferred none)) (fun r e => by cases e; exact ⟨_, hK', rfl⟩)
    refine ⟨.int .i64 0, ?_, by rw [HP.out], (hB.setCell (p := ⟨w.heap.size + 1, 0, none⟩) (by simp) _).trans (belowK_b (w := w) (Nat.le_refl _) _ D _ _ (by omega) hK' rfl rfl)⟩
    simp [results, Tryd.f17, go_sem, hc5]
  case stop =>
    rintro D c pre W hD hpre ⟨⟨rfl, x, hl, hx, hcr⟩, hB⟩ hK
    have HP : Hid (backP h n col k0 = x) := Lib.hid (backP_some h n col k0 (by omega) x (by
      obtain ⟨t, ht⟩ := hpre
      rw [← ht, List.getElem?_append_left (by omega)]
      exact hx))
    clear hl hx hpre
    gi_wp2
    refine ⟨by simp, .inl ⟨_, _, rfl, run_takeDeferred hK, ?_⟩⟩
    have hc5 := cell_kept hcr (grownBy_putObj' _ D (.deferred none)) (fun r e => by cases e; exact ⟨_, hK, rfl⟩)
    refine ⟨.int .i64 (x : Int), ?_, by rw [HP.out], hB.trans (belowK_b (w := w) (Nat.le_refl _) W D _ _ (by omega) hK rfl rfl)⟩
    simp [results, Tryd.f17, go_sem, hc5]

set_option maxHeartbeats 1000000 in
theorem back_any (B n : Nat) (h : Nat → Bool) (col k0 : Int) (hless : Less k0) (w : World) (s : Stp w B n h) :
    Calls Tryd.prog 17 #[.pointer (some ⟨B, 0, none⟩), .int .i64 col, .int .i64 k0] w fun e w' => e = .returned (.int .i64 (backP h n col k0)) ∧ Below w.heap.size w w' := by
  by_cases hk : k0 < 1
  · rw [backP_small h n col k0 hk]
    have HN := Lib.hid (fun W s' => nearest_any B n h col W s')
    have HS := Lib.hid s
    clear s
    have hd : decide (k0 < 1) = true := by simpa using hk
    generalize nearP n col = z at *
    have b0 := Blk.new w 3 #[.int .i64 k0]
    have b1 := Blk.new (w.alloc (.cells #[.int .i64 k0] 3)) 3 #[.int .i64 0]
    simp only [World.size_alloc] at b1
    have HB0 := Lib.hid (show Below w.heap.size w ((w.alloc (.cells #[.int .i64 k0] 3)).alloc (.cells #[.int .i64 0] 3)) from ((Below.refl _ w).alloc (Nat.le_refl _) _).alloc (by simp) _)
    have Hb1 := Lib.hid b1
    have c0 := (b0.alloc (.cells #[.int .i64 0] 3)).cell 0
    clear b0 b1
    go_enter Tryd.func17, Tryd.ntmps17
    go_wp2_with fail
    refine (HN.out _ (HS.out.next HB0.out)).mono ?_
    rintro e w1 ⟨rfl, hb1⟩
    have h1 := Hb1.out.next hb1
    have HB1 := Lib.hid ((HB0.out.trans (hb1.mono HB0.out.size)).setCell (p := ⟨w.heap.size + 1, 0, none⟩) (by simp) (.int .i64 z))
    have r1 : w1.cell? ⟨w.heap.size + 1, 0, none⟩ = some (.int .i64 0) := h1.cell 0
    have rf := h1.frozen 0
    have e0 : (w1.setCell ⟨w.heap.size + 1, 0, none⟩ (.int .i64 z)).cell? ⟨w.heap.size + 1, 0, none⟩ = some (.int .i64 z) := World.cell?_setCell_same' _ _ _ (by rw [r1]; rfl)
    clear hb1 h1 c0
    go_wp2_with fail
    exact bodyPost_ret (v := .int .i64 z) (by simp [results, Tryd.results17, go_sem, e0]) rfl ⟨rfl, HB1.out⟩
  · exact (callsIn_wide (n := 3)).1 (back_in 3 (Nat.le_refl _) B n h col k0 hk hless w s)
end Go.Proofs.YtnfdgioapbkonaaDoor

/-
  Boxes: the sides of a box, a box of two sides.
  Boxes: sides: a box of two, what two have in common, is one empty, has it a place, how many; which place is nearest.
  Boxes: the part of a side that numbers tell.
  Boxes: is one empty, is a place in it, a whole one.
  Boxes: what two have in common; the nearest place; how many.
  Boxes: the nearest place; how many rows and columns.
  Boxes: a list of numbers from a place on.
  Boxes, the document's own answers: the small ones.
  Boxes, the document's own answers: what two have in common.
  Boxes, the document's own answers: the nearest place, margins, a number of a list.
-/
import Derived.Test.YtfnamfkjbkhgeaaGreatDoorMixE
import Derived.Test.YtfnamfkjbkhgeaaGreatDoorClip
import Derived.Deep.DeepCutAuto
namespace Go.Proofs.YtfnamfkjbkhgeaaGreatDoor

open Go Go.RowKit

def bV (t l b r : Int) : Value := .agg #[.int .i64 t, .int .i64 l, .int .i64 b, .int .i64 r]
def sV (f b : Int) : Value := .agg #[.int .i64 f, .int .i64 b]
abbrev bC (t l b r : Int) : Array Value := #[.int .i64 t, .int .i64 l, .int .i64 b, .int .i64 r]
abbrev sC (f b : Int) : Array Value := #[.int .i64 f, .int .i64 b]
theorem world_gen {P : Program} {c : Code} {Q : Exit → Act → World → Prop} {a : Act} (Φ : World → Prop) {W0 : World} (h : Φ W0) (k : ∀ W, Φ W → c.wp P Q a W) : c.wp P Q a W0 := k _ h
theorem blk1 {W : World} {b : Nat} {T : TypeId} {x : Value} (h : Blk W b T #[x]) : W.cell? ⟨b, 0, none⟩ = some x ∧ W.frozen? ⟨b, 0, none⟩ = false := ⟨h.cell 0, h.frozen 0⟩
theorem blk2 {W : World} {b : Nat} {T : TypeId} {x y : Value} (h : Blk W b T #[x, y]) : W.cell? ⟨b, 0, none⟩ = some x ∧ W.cell? ⟨b, 1, none⟩ = some y ∧ W.frozen? ⟨b, 0, none⟩ = false ∧ W.frozen? ⟨b, 1, none⟩ = false := ⟨h.cell 0, h.cell 1, h.frozen 0, h.frozen 1⟩
theorem blk4 {W : World} {b : Nat} {T : TypeId} {x y u v : Value} (h : Blk W b T #[x, y, u, v]) : W.cell? ⟨b, 0, none⟩ = some x ∧ W.cell? ⟨b, 1, none⟩ = some y ∧ W.cell? ⟨b, 2, none⟩ = some u ∧ W.cell? ⟨b, 3, none⟩ = some v ∧ W.frozen? ⟨b, 0, none⟩ = false ∧ W.frozen? ⟨b, 1, none⟩ = false ∧ W.frozen? ⟨b, 2, none⟩ = false ∧ W.frozen? ⟨b, 3, none⟩ = false :=
  ⟨h.cell 0, h.cell 1, h.cell 2, h.cell 3, h.frozen 0, h.frozen 1, h.frozen 2, h.frozen 3⟩
/-- New boxes, one behind the other. -/
theorem new1 (w : World) (T : TypeId) (x : Array Value) : Blk (w.alloc (.cells x T)) w.heap.size T x ∧ Below w.heap.size w (w.alloc (.cells x T)) := ⟨Blk.new _ _ _, (Below.refl _ _).alloc (Nat.le_refl _) _⟩
theorem new2 (w : World) (T U : TypeId) (x y : Array Value) : Blk ((w.alloc (.cells x T)).alloc (.cells y U)) w.heap.size T x ∧ Blk ((w.alloc (.cells x T)).alloc (.cells y U)) (w.heap.size + 1) U y ∧ Below w.heap.size w ((w.alloc (.cells x T)).alloc (.cells y U)) :=
  ⟨(Blk.new _ _ _).alloc _, by have := Blk.new (w.alloc (.cells x T)) U y; simpa using this, ((Below.refl _ _).alloc (Nat.le_refl _) _).alloc (by simp) _⟩
theorem new3 (w : World) (T U V : TypeId) (x y z : Array Value) : Blk (((w.alloc (.cells x T)).alloc (.cells y U)).alloc (.cells z V)) w.heap.size T x ∧ Blk (((w.alloc (.cells x T)).alloc (.cells y U)).alloc (.cells z V)) (w.heap.size + 1) U y ∧
    Blk (((w.alloc (.cells x T)).alloc (.cells y U)).alloc (.cells z V)) (w.heap.size + 1 + 1) V z ∧ Below w.heap.size w (((w.alloc (.cells x T)).alloc (.cells y U)).alloc (.cells z V)) :=
  ⟨((Blk.new _ _ _).alloc _).alloc _, by have := (Blk.new (w.alloc (.cells x T)) U y).alloc (.cells z V); simpa using this, by have := Blk.new ((w.alloc (.cells x T)).alloc (.cells y U)) V z; simpa using this, (((Below.refl _ _).alloc (Nat.le_refl _) _).alloc (by simp) _).alloc (by simp; omega) _⟩

set_option maxHeartbeats 1000000 in
theorem sides_any (t l b r : Int) (w : World) :
    Calls Tryz.prog 93 #[bV t l b r] w fun e w' => e = .returned (.tuple #[sV t b, sV l r]) ∧ Below w.heap.size w w' := by
  unfold bV sV
  go_enter Tryz.func93, Tryz.ntmps93
  go_wp2_with fail
  refine world_gen (fun W => Blk W w.heap.size 29 (bC t l b r) ∧ Blk W (w.heap.size + 1) 157 (sC 0 0) ∧ Blk W (w.heap.size + 1 + 1) 157 (sC 0 0) ∧ Below w.heap.size w W) (new3 w _ _ _ _ _ _) ?_
  intro W ⟨h1, h2, h3, hb⟩
  have HC := Lib.hid (fun w' (h : Only [w.heap.size + 1, w.heap.size + 1 + 1] W w') => blk4 (h.blk h1 (by simp; omega)))
  refine wp_region_mix_lit (by kernel_rfl) [(10, .store (w.heap.size + 1) 157 (sC 0 0) (fun _ => sC t b)), (11, .store (w.heap.size + 1 + 1) 157 (sC 0 0) (fun _ => sC l r))] (by kernel_rfl) (by rfl) (by kernel_rfl) (by rfl)
    (by simp [apartK]) (by simp [startK]; exact ⟨h2, h3⟩) (by simp [stabK]) ⟨fun _ => undef, by simp [okK]⟩ (fun β _ => ?_)
  repeat (
    refine lex_val (v := ?_) rfl rfl (fun w' hf => ?_) ?_
    rotate_left
    · obtain ⟨c0, c1, c2, c3, _⟩ := HC.out w' hf.only
      go_simp
      rfl
    simp only [Act.put, List.setIfInBounds_toArray, List.set_cons_zero, List.set_cons_succ])
  refine lex_store rfl rfl (fun w' hf hB => ⟨_, ?_, repl2 hB _ _⟩) ?_
  · obtain ⟨g0, g1, z0, z1⟩ := blk2 hB
    go_simp
  simp only [Act.put]
  refine lex_store rfl rfl (fun w' hf hB => ⟨_, ?_, repl2 hB _ _⟩) ?_
  · obtain ⟨g0, g1, z0, z1⟩ := blk2 hB
    go_simp
  simp only [Act.put]
  refine lex_nil fun w' he => ?_
  obtain ⟨e0, e1, _⟩ := blk2 (he.facts 10)
  obtain ⟨e2, e3, _⟩ := blk2 (he.facts 11)
  have HB := Lib.hid (hb.trans (he.only.below (B := w.heap.size) hb.size (by simp [stores, Kind.at_] <;> omega)))
  clear hb he h1 h2 h3 HC
  go_wp2_with fail
  exact bodyPost_ret (v := .tuple #[.agg #[.int .i64 t, .int .i64 b], .agg #[.int .i64 l, .int .i64 r]]) (by simp [results, Tryz.results93, go_sem, e0, e1, e2, e3]) rfl ⟨rfl, HB.out⟩
end Go.Proofs.YtfnamfkjbkhgeaaGreatDoor

namespace Go.Proofs.YtfnamfkjbkhgeaaGreatDoor

open Go Go.RowKit

def emB (f b : Int) : Bool := decide (b ≤ f)
def hasBx (f b n : Int) : Bool := decide (f ≤ n) && decide (n < b)
def cntS (f b : Int) : Int := if b ≤ f then 0 else b - f
theorem calls_same {P : Program} {f : FuncId} {args : Array Value} {w : World} {v : Value} (h : Calls P f args w fun e w' => e = .returned v ∧ w = w') : Calls P f args w fun e w' => e = .returned v ∧ Below w.heap.size w w' :=
  h.mono fun e w' ⟨h1, h2⟩ => ⟨h1, by subst h2; exact Below.refl _ _⟩

set_option maxHeartbeats 1000000 in
theorem boxOf_any (rf rb cf cb : Int) (w : World) :
    Calls Tryz.prog 129 #[sV rf rb, sV cf cb] w fun e w' => e = .returned (bV rf cf rb cb) ∧ Below w.heap.size w w' := by
  unfold bV sV
  go_enter Tryz.func129, Tryz.ntmps129
  go_wp2_with fail
  exact bodyPost_ret (v := .agg #[.int .i64 rf, .int .i64 cf, .int .i64 rb, .int .i64 cb]) (by simp [results, Tryz.results129, go_sem]) rfl ⟨rfl, (new3 w _ _ _ _ _ _).2.2.2⟩

set_option maxHeartbeats 1000000 in
theorem sMeet_any (f b f' b' : Int) (w : World) :
    Calls Tryz.prog 130 #[sV f b, sV f' b'] w fun e w' => e = .returned (sV (max f f') (min b b')) ∧ Below w.heap.size w w' := by
  unfold sV
  have HX : Hid ((f < f' → max f f' = f') ∧ (¬ f < f' → max f f' = f)) := Lib.hid ⟨fun _ => by omega, fun _ => by omega⟩
  have HY : Hid ((b' < b → min b b' = b') ∧ (¬ b' < b → min b b' = b)) := Lib.hid ⟨fun _ => by omega, fun _ => by omega⟩
  generalize max f f' = x at *
  generalize min b b' = y at *
  by_cases p : f < f' <;> by_cases q : b' < b
  · obtain rfl := HX.out.1 p; obtain rfl := HY.out.1 q
    clear HX HY
    go_enter Tryz.func130, Tryz.ntmps130
    go_wp2_with fail
    exact bodyPost_ret (v := .agg #[.int .i64 _, .int .i64 _]) (by simp [results, Tryz.results130, go_sem]) rfl ⟨rfl, (new3 w _ _ _ _ _ _).2.2.2⟩
  · obtain rfl := HX.out.1 p; obtain rfl := HY.out.2 q
    clear HX HY
    go_enter Tryz.func130, Tryz.ntmps130
    go_wp2_with fail
    exact bodyPost_ret (v := .agg #[.int .i64 _, .int .i64 _]) (by simp [results, Tryz.results130, go_sem]) rfl ⟨rfl, (new3 w _ _ _ _ _ _).2.2.2⟩
  · obtain rfl := HX.out.2 p; obtain rfl := HY.out.1 q
    clear HX HY
    go_enter Tryz.func130, Tryz.ntmps130
    go_wp2_with fail
    exact bodyPost_ret (v := .agg #[.int .i64 _, .int .i64 _]) (by simp [results, Tryz.results130, go_sem]) rfl ⟨rfl, (new3 w _ _ _ _ _ _).2.2.2⟩
  · obtain rfl := HX.out.2 p; obtain rfl := HY.out.2 q
    clear HX HY
    go_enter Tryz.func130, Tryz.ntmps130
    go_wp2_with fail
    exact bodyPost_ret (v := .agg #[.int .i64 _, .int .i64 _]) (by simp [results, Tryz.results130, go_sem]) rfl ⟨rfl, (new3 w _ _ _ _ _ _).2.2.2⟩

set_option maxHeartbeats 1000000 in
theorem sEmpty_any (f b : Int) (w : World) :
    Calls Tryz.prog 121 #[sV f b] w fun e w' => e = .returned (.bool (emB f b)) ∧ Below w.heap.size w w' := by
  unfold sV
  obtain ⟨h1, hb⟩ := new1 w 157 (sC f b)
  obtain ⟨c0, c1, _, _⟩ := blk2 h1
  have HB := Lib.hid hb
  clear h1 hb
  have HE : Hid (emB f b = decide (b ≤ f)) := Lib.hid rfl
  go_enter Tryz.func121, Tryz.ntmps121
  go_wp2_with fail
  go_ret
  exact ⟨ret_bool (by first | exact HE.out.symm | (rw [HE.out]; simp)), HB.out⟩


set_option maxHeartbeats 1000000 in
theorem count_any (f b : Int) (h0 : -9223372036854775808 ≤ b - f) (h1 : b - f ≤ 9223372036854775807) (w : World) :
    Calls Tryz.prog 94 #[sV f b] w fun e w' => e = .returned (.int .i64 (cntS f b)) ∧ Below w.heap.size w w' := by
  have HS := Lib.hid (fun W => sEmpty_any f b W)
  unfold sV at *
  obtain ⟨h2, hb⟩ := new1 w 157 (sC f b)
  obtain ⟨c0, c1, _, _⟩ := blk2 h2
  have HB := Lib.hid hb
  have HK := Lib.hid h2
  clear h2 hb
  have HE : Hid (cntS f b = if b ≤ f then 0 else b - f) := Lib.hid rfl
  cases hE : emB f b
  · have hlt : f < b := by unfold emB at hE; simpa using hE
    rw [hE] at HS
    clear hE
    go_enter Tryz.func94, Tryz.ntmps94
    go_wp2_with fail
    refine (HS.out _).mono ?_
    rintro e w1 ⟨rfl, hb1⟩
    obtain ⟨d0, d1, _, _⟩ := blk2 (HK.out.next hb1)
    have HB1 := Lib.hid (HB.out.trans (hb1.mono HB.out.size))
    clear c0 c1 hb1
    go_wp2_with fail
    go_ret
    exact ⟨ret_int (by rw [HE.out, if_neg (by omega)]), HB1.out⟩
  · have hge : b ≤ f := by unfold emB at hE; simpa using hE
    rw [hE] at HS
    clear hE
    go_enter Tryz.func94, Tryz.ntmps94
    go_wp2_with fail
    refine (HS.out _).mono ?_
    rintro e w1 ⟨rfl, hb1⟩
    have HB1 := Lib.hid (HB.out.trans (hb1.mono HB.out.size))
    clear c0 c1 hb1
    go_wp2_with fail
    go_ret
    exact ⟨ret_int (by rw [HE.out, if_pos hge]), HB1.out⟩

set_option maxHeartbeats 1000000 in
theorem nearest_any (f b n : Int) (h0 : -9223372036854775808 ≤ b - 1) (h1 : b - 1 ≤ 9223372036854775807) (w : World) :
    Calls Tryz.prog 101 #[sV f b, .int .i64 n] w fun e w' => e = .returned (.int .i64 (clipP n f (b - 1))) ∧ Below w.heap.size w w' := by
  have HS := Lib.hid (fun W => clip_any n f (b - 1) W)
  unfold sV at *
  obtain ⟨h2, hb⟩ := new1 w 157 (sC f b)
  obtain ⟨c0, c1, _, _⟩ := blk2 h2
  have HB := Lib.hid hb
  clear h2 hb
  generalize clipP n f (b - 1) = x at *
  go_enter Tryz.func101, Tryz.ntmps101
  go_wp2_with (go_at_call 68; refine (HS.out _).mono ?_; rintro e w' ⟨rfl, rfl⟩)
  go_ret
  exact ⟨rfl, HB.out⟩


end Go.Proofs.YtfnamfkjbkhgeaaGreatDoor

namespace Go.Proofs.YtfnamfkjbkhgeaaGreatDoor

open Go Go.RowKit

/-- Two boxes of the call's own, and that old memory is as it was. -/
def K2 (w : World) (T : TypeId) (x : Array Value) (U : TypeId) (y : Array Value) (W : World) : Prop := Blk W w.heap.size T x ∧ Blk W (w.heap.size + 1) U y ∧ Below w.heap.size w W
section

variable {w W W' : World} {T U : TypeId} {x y : Array Value}

theorem K2.start (w : World) (T U : TypeId) (x y : Array Value) : K2 w T x U y ((w.alloc (.cells x T)).alloc (.cells y U)) := new2 w T U x y
theorem K2.next (h : K2 w T x U y W) (hb : Below W.heap.size W W') : K2 w T x U y W' := ⟨h.1.next hb, h.2.1.next hb, h.2.2.trans (hb.mono h.2.2.size)⟩
theorem K2.alloc (h : K2 w T x U y W) (o : Obj) : K2 w T x U y (W.alloc o) := ⟨h.1.alloc o, h.2.1.alloc o, h.2.2.alloc h.2.2.size o⟩
theorem K2.drew (h : K2 w T x U y W) : K2 w T x U y W.drew := ⟨h.1, h.2.1, h.2.2.drew⟩
theorem K2.lt (h : K2 w T x U y W) : w.heap.size + 1 < W.heap.size := h.2.1.lt
/-- A store into the second box. -/
theorem K2.set2 {a b : Value} (h : K2 w T x U #[a, b] W) (u v : Value) : K2 w T x U #[u, v] ((W.setCell ⟨w.heap.size + 1, 0, none⟩ u).setCell ⟨w.heap.size + 1, 1, none⟩ v) :=
  ⟨Blk.far (Blk.far h.1 (by simp) _) (by simp) _, (h.2.1.set_ 0 u).set_ 1 v, (h.2.2.setCell (by simp) _).setCell (by simp) _⟩
end

def partT (f b first last : Int) : Int × Int × Bool :=
  if first < 0 ∨ last < 0 then (0, 0, false) else
  if cntS f b < max first 1 then (0, 0, false) else
  if (if last ≠ 0 ∧ last ≤ cntS f b then f + last else b) ≤ f + max first 1 - 1 then (0, 0, false) else
  (f + max first 1 - 1, (if last ≠ 0 ∧ last ≤ cntS f b then f + last else b), true)
theorem part_cases (f b first last : Int) :
    (first < 0 ∧ partT f b first last = (0, 0, false)) ∨ (0 ≤ first ∧ last < 0 ∧ partT f b first last = (0, 0, false)) ∨
    (0 ≤ first ∧ 0 ≤ last ∧ ∃ F, ((first < 1 ∧ F = 1) ∨ (1 ≤ first ∧ F = first)) ∧
      ((cntS f b < F ∧ partT f b first last = (0, 0, false)) ∨
       (F ≤ b - f ∧ f < b ∧ cntS f b = b - f ∧ ∃ y, ((last = 0 ∧ y = b) ∨ (b - f < last ∧ y = b) ∨ (1 ≤ last ∧ last ≤ b - f ∧ y = f + last)) ∧
        ((y ≤ f + F - 1 ∧ partT f b first last = (0, 0, false)) ∨ (f + F - 1 < y ∧ partT f b first last = (f + F - 1, y, true)))))) := by
  by_cases h1 : first < 0
  · exact .inl ⟨h1, if_pos (.inl h1)⟩
  · by_cases h2 : last < 0
    · exact .inr (.inl ⟨by omega, h2, if_pos (.inr h2)⟩)
    · refine .inr (.inr ⟨by omega, by omega, max first 1, by omega, ?_⟩)
      unfold partT
      rw [if_neg (by omega)]
      by_cases h3 : cntS f b < max first 1
      · exact .inl ⟨h3, if_pos h3⟩
      · have hc : cntS f b = b - f := by
          unfold cntS at h3 ⊢
          split
          · rw [if_pos ‹_›] at h3; omega
          · rfl
        right
        rw [if_neg h3, hc]
        rw [hc] at h3
        refine ⟨by omega, by omega, rfl, (if last ≠ 0 ∧ last ≤ b - f then f + last else b), ?_, ?_⟩
        · by_cases h4 : last ≠ 0 ∧ last ≤ b - f
          · rw [if_pos h4]; omega
          · rw [if_neg h4]; omega
        · by_cases h5 : (if last ≠ 0 ∧ last ≤ b - f then f + last else b) ≤ f + max first 1 - 1
          · exact .inl ⟨h5, if_pos h5⟩
          · exact .inr ⟨by omega, if_neg h5⟩


end Go.Proofs.YtfnamfkjbkhgeaaGreatDoor

namespace Go.Proofs.YtfnamfkjbkhgeaaGreatDoor

open Go Go.RowKit

theorem bstep {a W W' : World} (h : Below a.heap.size a W) (h' : Below W.heap.size W W') : Below a.heap.size a W' := h.trans (h'.mono h.size)
def pV (r c : Int) : Value := .agg #[.int .i64 r, .int .i64 c]
def bEm (t l b r : Int) : Bool := emB t b || emB l r
def inBx (t l b r p q : Int) : Bool := hasBx t b p && hasBx l r q

set_option maxHeartbeats 2000000 in
theorem empty_any (t l b r : Int) (w : World) :
    Calls Tryz.prog 92 #[bV t l b r] w fun e w' => e = .returned (.bool (bEm t l b r)) ∧ Below w.heap.size w w' := by
  have HS := Lib.hid (fun W => sides_any t l b r W)
  have HE := Lib.hid (fun W => sEmpty_any t b W)
  have HF := Lib.hid (fun W => sEmpty_any l r W)
  have HV : Hid (bEm t l b r = (emB t b || emB l r)) := Lib.hid rfl
  generalize bEm t l b r = v at *
  generalize emB l r = y at *
  unfold bV sV at *
  cases hx : emB t b
  · rw [hx] at HE HV
    clear hx
    go_enter Tryz.func92, Tryz.ntmps92
    go_wp2_with fail
    refine (HS.out _).mono ?_
    rintro e w1 ⟨rfl, hb1⟩
    have HB1 := Lib.hid (bstep (new1 w _ _).2 hb1)
    clear hb1
    go_wp2_with fail
    refine (HE.out _).mono ?_
    rintro e w2 ⟨rfl, hb2⟩
    have HB2 := Lib.hid (bstep (bstep HB1.out (new2 w1 _ _ _ _).2.2) hb2)
    obtain ⟨c0, c1, _, _⟩ := blk2 (Blk.next (new2 w1 157 157 #[.int .i64 t, .int .i64 b] #[.int .i64 l, .int .i64 r]).2.1 hb2)
    clear hb2
    go_wp2_with fail
    refine (HF.out _).mono ?_
    rintro e w3 ⟨rfl, hb3⟩
    have HB3 := Lib.hid (bstep HB2.out hb3)
    clear hb3 c0 c1
    go_wp2_with fail
    go_ret
    exact ⟨ret_bool (by rw [HV.out]; rfl), HB3.out⟩
  · rw [hx] at HE HV
    clear hx
    go_enter Tryz.func92, Tryz.ntmps92
    go_wp2_with fail
    refine (HS.out _).mono ?_
    rintro e w1 ⟨rfl, hb1⟩
    have HB1 := Lib.hid (bstep (new1 w _ _).2 hb1)
    clear hb1
    go_wp2_with fail
    refine (HE.out _).mono ?_
    rintro e w2 ⟨rfl, hb2⟩
    have HB2 := Lib.hid (bstep (bstep HB1.out (new2 w1 _ _ _ _).2.2) hb2)
    clear hb2
    go_wp2_with fail
    go_ret
    exact ⟨ret_bool (by rw [HV.out]; rfl), HB2.out⟩


set_option maxHeartbeats 2000000 in
theorem whole_any (r c : Int) (w : World) :
    Calls Tryz.prog 59 #[.int .i64 r, .int .i64 c] w fun e w' => e = .returned (bV 0 0 (max r 0) (max c 0)) ∧ Below w.heap.size w w' := by
  unfold bV
  have HX : Hid ((r < 0 → max r 0 = 0) ∧ (¬ r < 0 → max r 0 = r)) := Lib.hid ⟨fun _ => by omega, fun _ => by omega⟩
  have HY : Hid ((c < 0 → max c 0 = 0) ∧ (¬ c < 0 → max c 0 = c)) := Lib.hid ⟨fun _ => by omega, fun _ => by omega⟩
  generalize max r 0 = x at *
  generalize max c 0 = y at *
  by_cases p : r < 0 <;> by_cases q : c < 0
  · obtain rfl := HX.out.1 p; obtain rfl := HY.out.1 q
    clear HX HY
    go_enter Tryz.func59, Tryz.ntmps59
    go_wp2_with fail
    exact bodyPost_ret (v := .agg #[.int .i64 0, .int .i64 0, .int .i64 _, .int .i64 _]) (by simp [results, Tryz.results59, go_sem]; try exact ⟨rfl, rfl⟩) rfl ⟨rfl, (new1 w _ _).2⟩
  · obtain rfl := HX.out.1 p; obtain rfl := HY.out.2 q
    clear HX HY
    go_enter Tryz.func59, Tryz.ntmps59
    go_wp2_with fail
    exact bodyPost_ret (v := .agg #[.int .i64 0, .int .i64 0, .int .i64 _, .int .i64 _]) (by simp [results, Tryz.results59, go_sem]; try exact ⟨rfl, rfl⟩) rfl ⟨rfl, (new1 w _ _).2⟩
  · obtain rfl := HX.out.2 p; obtain rfl := HY.out.1 q
    clear HX HY
    go_enter Tryz.func59, Tryz.ntmps59
    go_wp2_with fail
    exact bodyPost_ret (v := .agg #[.int .i64 0, .int .i64 0, .int .i64 _, .int .i64 _]) (by simp [results, Tryz.results59, go_sem]; try exact ⟨rfl, rfl⟩) rfl ⟨rfl, (new1 w _ _).2⟩
  · obtain rfl := HX.out.2 p; obtain rfl := HY.out.2 q
    clear HX HY
    go_enter Tryz.func59, Tryz.ntmps59
    go_wp2_with fail
    exact bodyPost_ret (v := .agg #[.int .i64 0, .int .i64 0, .int .i64 _, .int .i64 _]) (by simp [results, Tryz.results59, go_sem]; try exact ⟨rfl, rfl⟩) rfl ⟨rfl, (new1 w _ _).2⟩
end Go.Proofs.YtfnamfkjbkhgeaaGreatDoor

namespace Go.Proofs.YtfnamfkjbkhgeaaGreatDoor

open Go Go.RowKit

/-- What two boxes have in common. -/
def meetT (t l b r t' l' b' r' : Int) : Int × Int × Int × Int :=
  if bEm (max t t') (max l l') (min b b') (min r r') = true then (0, 0, 0, 0) else (max t t', max l l', min b b', min r r')
set_option maxRecDepth 100000 in
set_option maxHeartbeats 4000000 in
theorem meet_any (t l b r t' l' b' r' : Int) (w : World) :
    Calls Tryz.prog 100 #[bV t l b r, bV t' l' b' r'] w fun e w' => e = .returned (bV (meetT t l b r t' l' b' r').1 (meetT t l b r t' l' b' r').2.1 (meetT t l b r t' l' b' r').2.2.1 (meetT t l b r t' l' b' r').2.2.2) ∧ Below w.heap.size w w' := by
  have HS := Lib.hid (fun W => sides_any t l b r W)
  have HT := Lib.hid (fun W => sides_any t' l' b' r' W)
  have HM := Lib.hid (fun W => sMeet_any t b t' b' W)
  have HN := Lib.hid (fun W => sMeet_any l r l' r' W)
  have HO := Lib.hid (fun W => boxOf_any (max t t') (min b b') (max l l') (min r r') W)
  have HE := Lib.hid (fun W => empty_any (max t t') (max l l') (min b b') (min r r') W)
  have HV : Hid ((bEm (max t t') (max l l') (min b b') (min r r') = true → meetT t l b r t' l' b' r' = (0, 0, 0, 0)) ∧ (bEm (max t t') (max l l') (min b b') (min r r') = false → meetT t l b r t' l' b' r' = (max t t', max l l', min b b', min r r'))) :=
    Lib.hid ⟨fun h => if_pos h, fun h => if_neg (by rw [h]; simp)⟩
  generalize max t t' = xt at *
  generalize max l l' = xl at *
  generalize min b b' = xb at *
  generalize min r r' = xr at *
  generalize meetT t l b r t' l' b' r' = res at *
  have HK := Lib.hid (new3 w 29 29 29 (bC t l b r) (bC t' l' b' r') (bC 0 0 0 0))
  unfold bV sV at *
  go_enter Tryz.func100, Tryz.ntmps100
  go_wp2_with fail
  refine (HS.out _).mono ?_
  rintro e w1 ⟨rfl, hb1⟩
  have HK1 := Lib.hid (show Blk w1 (w.heap.size + 1) 29 (bC t' l' b' r') ∧ Blk w1 (w.heap.size + 1 + 1) 29 (bC 0 0 0 0) ∧ Below w.heap.size w w1 from ⟨HK.out.2.1.next hb1, HK.out.2.2.1.next hb1, bstep HK.out.2.2.2 hb1⟩)
  obtain ⟨c0, c1, c2, c3, _⟩ := blk4 HK1.out.1
  have hz : w.heap.size + 1 < w1.heap.size := HK1.out.1.lt
  have hz' : w.heap.size < w1.heap.size := by omega
  clear hb1
  go_wp2_with fail
  have HA1 := Lib.hid (new2 w1 157 157 (sC t b) (sC l r))
  refine (HT.out _).mono ?_
  rintro e w2 ⟨rfl, hb2⟩
  have HK2 := Lib.hid (show Blk w2 (w.heap.size + 1 + 1) 29 (bC 0 0 0 0) ∧ Below w.heap.size w w2 ∧ Blk w2 w1.heap.size 157 (sC t b) ∧ Blk w2 (w1.heap.size + 1) 157 (sC l r) from ⟨(HK1.out.2.1.below HA1.out.2.2 (HK1.out.2.1.lt)).next hb2, bstep (bstep HK1.out.2.2 HA1.out.2.2) hb2, HA1.out.1.next hb2, HA1.out.2.1.next hb2⟩)
  clear hb2 c0 c1 c2 c3 hz hz'
  go_wp2_with fail
  have HA2 := Lib.hid (new2 w2 157 157 (sC t' b') (sC l' r'))
  refine world_gen (fun W => Blk W (w.heap.size + 1 + 1) 29 (bC 0 0 0 0) ∧ Below w.heap.size w W ∧ Blk W w1.heap.size 157 (sC t b) ∧ Blk W (w1.heap.size + 1) 157 (sC l r) ∧ Blk W w2.heap.size 157 (sC t' b') ∧ Blk W (w2.heap.size + 1) 157 (sC l' r'))
    ⟨HK2.out.1.below HA2.out.2.2 HK2.out.1.lt, bstep HK2.out.2.1 HA2.out.2.2, HK2.out.2.2.1.below HA2.out.2.2 HK2.out.2.2.1.lt, HK2.out.2.2.2.below HA2.out.2.2 HK2.out.2.2.2.lt, HA2.out.1, HA2.out.2.1⟩ ?_
  intro W ⟨k0, kb, k1, k2, k3, k4⟩
  have HC := Lib.hid (fun w' (h : Only [] W w') => And.intro (blk2 (h.blk k1 (by simp))) (And.intro (blk2 (h.blk k2 (by simp))) (And.intro (blk2 (h.blk k3 (by simp))) (blk2 (h.blk k4 (by simp))))))
  have HB := Lib.hid kb
  have HR := Lib.hid k0
  clear k0 k1 k2 k3 k4 kb
  refine wp_region_mix_lit (by kernel_rfl) [(2, .call (.agg #[.int .i64 xt, .int .i64 xb])), (5, .call (.agg #[.int .i64 xl, .int .i64 xr])), (6, .call (.agg #[.int .i64 xt, .int .i64 xl, .int .i64 xb, .int .i64 xr])), (7, .alloc 8 29 (bC 0 0 0 0) (fun _ => bC xt xl xb xr)), (8, .init 7)] (by kernel_rfl) (by kernel_rfl) (by kernel_rfl) (by rfl) (by simp [apartK] <;> omega) (by simp [startK]) (by simp [stabK]) (⟨fun _ => .pointer (some ⟨W.heap.size, 0, none⟩), by simp [okK]⟩) (fun β hβ => ?_)
  repeat (
    refine lex_val (v := ?_) rfl rfl (fun w' hf => ?_) ?_
    rotate_left
    · obtain ⟨⟨c0, c1, _⟩, ⟨d0, d1, _⟩, ⟨f0, f1, _⟩, g0, g1, _⟩ := HC.out w' hf.only; go_simp
      try rfl
    try simp only [Act.put, List.setIfInBounds_toArray, List.set_cons_zero, List.set_cons_succ])
  refine lex_call (f := 130) (args := ?_) rfl rfl (fun w' hf => ?_) (fun w' hf => ?_) ?_
  rotate_left
  · go_simp
    try rfl
  · exact HM.out w'
  try simp only [Act.put, List.setIfInBounds_toArray, List.set_cons_zero, List.set_cons_succ]
  repeat (
    refine lex_val (v := ?_) rfl rfl (fun w' hf => ?_) ?_
    rotate_left
    · obtain ⟨⟨c0, c1, _⟩, ⟨d0, d1, _⟩, ⟨f0, f1, _⟩, g0, g1, _⟩ := HC.out w' hf.only; go_simp
      try rfl
    try simp only [Act.put, List.setIfInBounds_toArray, List.set_cons_zero, List.set_cons_succ])
  refine lex_call (f := 130) (args := ?_) rfl rfl (fun w' hf => ?_) (fun w' hf => ?_) ?_
  rotate_left
  · go_simp
    try rfl
  · exact HN.out w'
  try simp only [Act.put, List.setIfInBounds_toArray, List.set_cons_zero, List.set_cons_succ]
  refine lex_call (f := 129) (args := ?_) rfl rfl (fun w' hf => ?_) (fun w' hf => ?_) ?_
  rotate_left
  · go_simp
    try rfl
  · exact HO.out w'
  try simp only [Act.put, List.setIfInBounds_toArray, List.set_cons_zero, List.set_cons_succ]
  refine lex_alloc rfl rfl (fun w' => ?_) ?_
  · go_simp
  try simp only [Act.put, List.setIfInBounds_toArray, List.set_cons_zero, List.set_cons_succ]
  refine lex_init rfl rfl rfl (fun b w' hb hf hB => ⟨_, ?_, repl4 hB _ _ _ _⟩) ?_
  · have gB := blk4 hB
    go_simp
  try simp only [Act.put]
  refine lex_nil fun w' he => ?_
  obtain ⟨b9, hb9, hge, hB9⟩ : ∃ b, β 7 = .pointer (some ⟨b, 0, none⟩) ∧ W.heap.size ≤ b ∧ Blk w' b 29 (bC xt xl xb xr) := he.facts 7
  have HR3 := Lib.hid (he.only.blk HR.out (by simp [stores, Kind.at_]))
  have HB3 := Lib.hid (bstep HB.out he.only.below0)
  have HB9 := Lib.hid hB9
  have hne : w.heap.size + 1 + 1 ≠ b9 := by have := HR.out.lt; omega
  obtain ⟨c0, c1, c2, c3, _⟩ := blk4 hB9
  rw [hb9]
  clear hb9 he hβ hge hB9
  go_wp2_with fail
  refine (HE.out _).mono ?_
  rintro e w4 ⟨rfl, hb4⟩
  have HR4 := Lib.hid (HR3.out.next hb4)
  have HB4 := Lib.hid (bstep HB3.out hb4)
  obtain ⟨c0, c1, c2, c3, _⟩ := blk4 (HB9.out.next hb4)
  obtain ⟨_, _, _, _, z0, z1, z2, z3⟩ := blk4 HR4.out
  have HP := Lib.hid (fun u v x y => repl4 HR4.out u v x y)
  have HQ := Lib.hid (fun u v x y => (((HB4.out.setCell (p := ⟨w.heap.size + 1 + 1, 0, none⟩) (by simp; omega) u).setCell (p := ⟨w.heap.size + 1 + 1, 1, none⟩) (by simp; omega) v).setCell (p := ⟨w.heap.size + 1 + 1, 2, none⟩) (by simp; omega) x).setCell (p := ⟨w.heap.size + 1 + 1, 3, none⟩) (by simp; omega) y)
  clear hb4
  cases hx : bEm xt xl xb xr
  · obtain rfl := HV.out.2 hx
    clear hx
    go_wp2_with fail
    obtain ⟨e0, e1, e2, e3, _⟩ := blk4 (HP.out (.int .i64 xt) (.int .i64 xl) (.int .i64 xb) (.int .i64 xr)).here
    exact bodyPost_ret (v := .agg #[.int .i64 xt, .int .i64 xl, .int .i64 xb, .int .i64 xr]) (by simp [results, Tryz.results100, go_sem, e0, e1, e2, e3]) rfl ⟨rfl, HQ.out _ _ _ _⟩
  · obtain rfl := HV.out.1 hx
    clear hx
    go_wp2_with fail
    obtain ⟨e0, e1, e2, e3, _⟩ := blk4 (HP.out (.int .i64 0) (.int .i64 0) (.int .i64 0) (.int .i64 0)).here
    exact bodyPost_ret (v := .agg #[.int .i64 0, .int .i64 0, .int .i64 0, .int .i64 0]) (by simp [results, Tryz.results100, go_sem, e0, e1, e2, e3]) rfl ⟨rfl, HQ.out _ _ _ _⟩
end Go.Proofs.YtfnamfkjbkhgeaaGreatDoor

namespace Go.Proofs.YtfnamfkjbkhgeaaGreatDoor

open Go Go.RowKit

def Sm (x : Int) : Prop := -1000000 ≤ x ∧ x ≤ 1000000
theorem bEm_false {t l b r : Int} (h : bEm t l b r = false) : t < b ∧ l < r := by
  unfold bEm emB at h
  simp at h
  omega
theorem bEm_true {t l b r : Int} (h : bEm t l b r = true) : b ≤ t ∨ r ≤ l := by
  unfold bEm emB at h
  simpa using h
def clampT (t l b r p q : Int) : Int × Int := if bEm t l b r = true then (t, l) else (clipP p t (b - 1), clipP q l (r - 1))
set_option maxRecDepth 100000 in
set_option maxHeartbeats 4000000 in
theorem bclamp_any (t l b r p q : Int) (_ht : Sm t) (_hl : Sm l) (hb0 : Sm b) (hr : Sm r) (w : World) :
    Calls Tryz.prog 65 #[bV t l b r, pV p q] w fun e w' => e = .returned (pV (clampT t l b r p q).1 (clampT t l b r p q).2) ∧ Below w.heap.size w w' := by
  unfold Sm at *
  have HS := Lib.hid (fun W => sides_any t l b r W)
  have HE := Lib.hid (fun W => empty_any t l b r W)
  have HN1 := Lib.hid (fun W => nearest_any t b p (by omega) (by omega) W)
  have HN2 := Lib.hid (fun W => nearest_any l r q (by omega) (by omega) W)
  have HV : Hid ((bEm t l b r = true → clampT t l b r p q = (t, l)) ∧ (bEm t l b r = false → clampT t l b r p q = (clipP p t (b - 1), clipP q l (r - 1)))) :=
    Lib.hid ⟨fun h => if_pos h, fun h => if_neg (by rw [h]; simp)⟩
  generalize clipP p t (b - 1) = x at *
  generalize clipP q l (r - 1) = y at *
  generalize clampT t l b r p q = res at *
  clear _ht _hl hb0 hr
  have HK := Lib.hid (new3 w 29 37 37 (bC t l b r) (sC p q) (sC 0 0))
  unfold bV sV pV at *
  cases hx : bEm t l b r
  · obtain rfl := HV.out.2 hx
    rw [hx] at HE
    clear hx HV
    go_enter Tryz.func65, Tryz.ntmps65
    go_wp2_with fail
    refine (HE.out _).mono ?_
    rintro e w1 ⟨rfl, hb1⟩
    have HK1 := Lib.hid (show Blk w1 w.heap.size 29 (bC t l b r) ∧ Blk w1 (w.heap.size + 1) 37 (sC p q) ∧ Blk w1 (w.heap.size + 1 + 1) 37 (sC 0 0) ∧ Below w.heap.size w w1 from ⟨HK.out.1.next hb1, HK.out.2.1.next hb1, HK.out.2.2.1.next hb1, bstep HK.out.2.2.2 hb1⟩)
    obtain ⟨c0, c1, c2, c3, _⟩ := blk4 HK1.out.1
    clear hb1
    go_wp2_with fail
    refine (HS.out _).mono ?_
    rintro e w2 ⟨rfl, hb2⟩
    have HK2 := Lib.hid (show Blk w2 (w.heap.size + 1) 37 (sC p q) ∧ Blk w2 (w.heap.size + 1 + 1) 37 (sC 0 0) ∧ Below w.heap.size w w2 from ⟨HK1.out.2.1.next hb2, HK1.out.2.2.1.next hb2, bstep HK1.out.2.2.2 hb2⟩)
    clear hb2 c0 c1 c2 c3
    go_wp2_with fail
    have HA2 := Lib.hid (new2 w2 157 157 (sC t b) (sC l r))
    refine world_gen (fun W => Blk W (w.heap.size + 1) 37 (sC p q) ∧ Blk W (w.heap.size + 1 + 1) 37 (sC 0 0) ∧ Below w.heap.size w W ∧ Blk W w2.heap.size 157 (sC t b) ∧ Blk W (w2.heap.size + 1) 157 (sC l r) ∧ w.heap.size + 1 + 1 < w2.heap.size)
      ⟨HK2.out.1.below HA2.out.2.2 HK2.out.1.lt, HK2.out.2.1.below HA2.out.2.2 HK2.out.2.1.lt, bstep HK2.out.2.2 HA2.out.2.2, HA2.out.1, HA2.out.2.1, HK2.out.2.1.lt⟩ ?_
    intro W ⟨k0, k1, kb, k2, k3, hlt⟩
    have HC := Lib.hid (fun w' (h : Only [w.heap.size + 1 + 1] W w') => And.intro (blk2 (h.blk k0 (by simp))) (And.intro (blk2 (h.blk k2 (by simp; omega))) (blk2 (h.blk k3 (by simp; omega)))))
    have HB := Lib.hid kb
    have HR := Lib.hid k1
    clear k0 k1 k2 k3 kb hlt
    refine wp_region_mix_lit (by kernel_rfl) [(3, .call (.int .i64 x)), (7, .call (.int .i64 y)), (9, .store (w.heap.size + 1 + 1) 37 (sC 0 0) (fun _ => sC x y))] (by kernel_rfl) (by kernel_rfl) (by kernel_rfl) (by rfl) (by simp [apartK] <;> omega) (by simp [startK]; exact HR.out) (by simp [stabK]) (⟨fun _ => undef, by simp [okK]⟩) (fun β hβ => ?_)
    repeat (
      refine lex_val (v := ?_) rfl rfl (fun w' hf => ?_) ?_
      rotate_left
      · obtain ⟨⟨c0, c1, _⟩, ⟨d0, d1, _⟩, f0, f1, _⟩ := HC.out w' hf.only; go_simp
        try rfl
      try simp only [Act.put, List.setIfInBounds_toArray, List.set_cons_zero, List.set_cons_succ])
    refine lex_call (f := 101) (args := ?_) rfl rfl (fun w' hf => ?_) (fun w' hf => ?_) ?_
    rotate_left
    · go_simp
      try rfl
    · exact HN1.out w'
    try simp only [Act.put, List.setIfInBounds_toArray, List.set_cons_zero, List.set_cons_succ]
    repeat (
      refine lex_val (v := ?_) rfl rfl (fun w' hf => ?_) ?_
      rotate_left
      · obtain ⟨⟨c0, c1, _⟩, ⟨d0, d1, _⟩, f0, f1, _⟩ := HC.out w' hf.only; go_simp
        try rfl
      try simp only [Act.put, List.setIfInBounds_toArray, List.set_cons_zero, List.set_cons_succ])
    refine lex_call (f := 101) (args := ?_) rfl rfl (fun w' hf => ?_) (fun w' hf => ?_) ?_
    rotate_left
    · go_simp
      try rfl
    · exact HN2.out w'
    try simp only [Act.put, List.setIfInBounds_toArray, List.set_cons_zero, List.set_cons_succ]
    repeat (
      refine lex_val (v := ?_) rfl rfl (fun w' hf => ?_) ?_
      rotate_left
      · go_simp
        try rfl
      try simp only [Act.put, List.setIfInBounds_toArray, List.set_cons_zero, List.set_cons_succ])
    refine lex_store rfl rfl (fun w' hf hB => ⟨_, ?_, repl2 hB _ _⟩) ?_
    · have gB := blk2 hB
      go_simp
    try simp only [Act.put]
    refine lex_nil fun w' he => ?_
    obtain ⟨e0, e1, _⟩ := blk2 (he.facts 9)
    have HB3 := Lib.hid (HB.out.trans (he.only.below (B := w.heap.size) HB.out.size (by simp [stores, Kind.at_] <;> omega)))
    clear he
    go_wp2_with fail
    exact bodyPost_ret (v := .agg #[.int .i64 x, .int .i64 y]) (by simp [results, Tryz.results65, go_sem, e0, e1]) rfl ⟨rfl, HB3.out⟩
  · obtain rfl := HV.out.1 hx
    rw [hx] at HE
    clear hx HV
    go_enter Tryz.func65, Tryz.ntmps65
    go_wp2_with fail
    refine (HE.out _).mono ?_
    rintro e w1 ⟨rfl, hb1⟩
    obtain ⟨c0, c1, c2, c3, _⟩ := blk4 (HK.out.1.next hb1)
    have HK1 := Lib.hid (HK.out.2.2.1.next hb1)
    obtain ⟨_, _, z0, z1⟩ := blk2 HK1.out
    have HB1 := Lib.hid (bstep HK.out.2.2.2 hb1)
    clear hb1
    go_wp2_with fail
    obtain ⟨e0, e1, _⟩ := blk2 (repl2 HK1.out (.int .i64 t) (.int .i64 l)).here
    exact bodyPost_ret (v := .agg #[.int .i64 t, .int .i64 l]) (by simp [results, Tryz.results65, go_sem, e0, e1]) rfl ⟨rfl, (HB1.out.setCell (by simp; omega) _).setCell (by simp; omega) _⟩

set_option maxRecDepth 100000 in
set_option maxHeartbeats 4000000 in
theorem size_any (t l b r : Int) (ht : Sm t) (hl : Sm l) (hb0 : Sm b) (hr : Sm r) (w : World) :
    Calls Tryz.prog 52 #[bV t l b r] w fun e w' => e = .returned (.tuple #[.int .i64 (if bEm t l b r = true then 0 else b - t), .int .i64 (if bEm t l b r = true then 0 else r - l)]) ∧ Below w.heap.size w w' := by
  unfold Sm at *
  have HS := Lib.hid (fun W => sides_any t l b r W)
  have HE := Lib.hid (fun W => empty_any t l b r W)
  have HN1 := Lib.hid (fun W => count_any t b (by omega) (by omega) W)
  have HN2 := Lib.hid (fun W => count_any l r (by omega) (by omega) W)
  clear ht hl hb0 hr
  cases hx : bEm t l b r
  · rw [show cntS t b = b - t from if_neg (by have := bEm_false hx; omega)] at HN1
    rw [show cntS l r = r - l from if_neg (by have := bEm_false hx; omega)] at HN2
    rw [hx] at HE
    clear hx
    rw [if_neg Bool.false_ne_true, if_neg Bool.false_ne_true]
    generalize b - t = x at *
    generalize r - l = y at *
    unfold bV sV at *
    go_enter Tryz.func52, Tryz.ntmps52
    go_wp2_with fail
    refine (HE.out _).mono ?_
    rintro e w1 ⟨rfl, hb1⟩
    obtain ⟨c0, c1, c2, c3, _⟩ := blk4 ((new1 w 29 (bC t l b r)).1.next hb1)
    have HB1 := Lib.hid (bstep (new1 w _ _).2 hb1)
    clear hb1
    go_wp2_with fail
    refine (HS.out _).mono ?_
    rintro e w2 ⟨rfl, hb2⟩
    have HB2 := Lib.hid (bstep HB1.out hb2)
    clear hb2 c0 c1 c2 c3
    go_wp2_with fail
    refine world_gen (fun W => Below w.heap.size w W ∧ Blk W w2.heap.size 157 (sC t b) ∧ Blk W (w2.heap.size + 1) 157 (sC l r))
      ⟨bstep HB2.out (new2 w2 _ _ _ _).2.2, (new2 w2 _ _ _ _).1, (new2 w2 _ _ _ _).2.1⟩ ?_
    intro W ⟨kb, k2, k3⟩
    have HC := Lib.hid (fun w' (h : Only [] W w') => And.intro (blk2 (h.blk k2 (by simp))) (blk2 (h.blk k3 (by simp))))
    have HB := Lib.hid kb
    clear k2 k3 kb
    refine wp_region_mix_lit (by kernel_rfl) [(1, .call (.int .i64 x)), (3, .call (.int .i64 y))] (by kernel_rfl) (by kernel_rfl) (by kernel_rfl) (by rfl) (by simp [apartK] <;> omega) (by simp [startK]) (by simp [stabK]) (⟨fun _ => undef, by simp [okK]⟩) (fun β hβ => ?_)
    repeat (
      refine lex_val (v := ?_) rfl rfl (fun w' hf => ?_) ?_
      rotate_left
      · obtain ⟨⟨c0, c1, _⟩, d0, d1, _⟩ := HC.out w' hf.only; go_simp
        try rfl
      try simp only [Act.put, List.setIfInBounds_toArray, List.set_cons_zero, List.set_cons_succ])
    refine lex_call (f := 94) (args := ?_) rfl rfl (fun w' hf => ?_) (fun w' hf => ?_) ?_
    rotate_left
    · go_simp
      try rfl
    · exact HN1.out w'
    try simp only [Act.put, List.setIfInBounds_toArray, List.set_cons_zero, List.set_cons_succ]
    repeat (
      refine lex_val (v := ?_) rfl rfl (fun w' hf => ?_) ?_
      rotate_left
      · obtain ⟨⟨c0, c1, _⟩, d0, d1, _⟩ := HC.out w' hf.only; go_simp
        try rfl
      try simp only [Act.put, List.setIfInBounds_toArray, List.set_cons_zero, List.set_cons_succ])
    refine lex_call (f := 94) (args := ?_) rfl rfl (fun w' hf => ?_) (fun w' hf => ?_) ?_
    rotate_left
    · go_simp
      try rfl
    · exact HN2.out w'
    try simp only [Act.put, List.setIfInBounds_toArray, List.set_cons_zero, List.set_cons_succ]
    repeat (
      refine lex_val (v := ?_) rfl rfl (fun w' hf => ?_) ?_
      rotate_left
      · go_simp
        try rfl
      try simp only [Act.put, List.setIfInBounds_toArray, List.set_cons_zero, List.set_cons_succ])
    refine lex_nil fun w' he => ?_
    have HB3 := Lib.hid (bstep HB.out he.only.below0)
    clear he
    go_wp2_with fail
    go_ret2
    exact ⟨rfl, HB3.out⟩
  · rw [hx] at HE
    clear hx HN1 HN2
    unfold bV sV at *
    go_enter Tryz.func52, Tryz.ntmps52
    go_wp2_with fail
    refine (HE.out _).mono ?_
    rintro e w1 ⟨rfl, hb1⟩
    have HB1 := Lib.hid (bstep (new1 w _ _).2 hb1)
    clear hb1
    go_wp2_with fail
    go_ret2
    exact ⟨rfl, HB1.out⟩
end Go.Proofs.YtfnamfkjbkhgeaaGreatDoor

namespace Go.Proofs.YtfnamfkjbkhgeaaGreatDoor

open Go Go.RowKit

def dropP (l : List Int) (i : Int) : List Int := if i < 0 ∨ (l.length : Int) < i then [] else l.drop i.toNat
theorem rints_drop {w : World} {ad : Addr} {l : List Int} (h : RInts w (some ad) l) (k : Nat) : RInts w (some (ad.add k)) (l.drop k) := by
  refine ⟨by simp, fun hn => ?_⟩
  rw [List.length_drop] at hn
  obtain ⟨ad', e, hb, hc⟩ := h.2 (by omega)
  injection e with e
  subst e
  refine ⟨_, rfl, by rw [block_of_add]; exact hb, fun j u hu => ?_⟩
  rw [add_of_add]
  refine hc (k + j) u ?_
  rw [← hu, List.map_drop, List.getElem?_drop]
theorem rints_none (w : World) (A : Option Addr) : RInts w A [] := ⟨rfl, fun h => absurd h (by simp)⟩
/-- A slice that reads as just these numbers is answered, and nothing has turned. -/
def SlPost (A : Option Addr) (ns l : List Int) (w : World) (e : Ending) (w' : World) : Prop := ∃ A' c', e = .returned (.slice A' l.length c') ∧ (∀ W, RInts W A ns → RInts W A' l) ∧ w = w'

end Go.Proofs.YtfnamfkjbkhgeaaGreatDoor

namespace Go.Proofs.YtfnamfkjbkhgeaaGreatDoor

open Go Go.RowKit

set_option maxHeartbeats 2000000 in
theorem refEmpty_any (t l b r : Int) (w : World) :
    Calls Tryz.prog 88 #[bV t l b r] w fun e w' => e = .returned (.bool (bEm t l b r)) ∧ Below w.heap.size w w' := by
  have HV : Hid (bEm t l b r = (decide (b ≤ t) || decide (r ≤ l))) := Lib.hid rfl
  generalize bEm t l b r = v at *
  unfold bV
  have HB := Lib.hid (new1 w 29 (bC t l b r)).2
  by_cases h : b ≤ t
  · obtain rfl : v = true := by rw [HV.out]; simp [h]
    clear HV
    go_enter Tryz.func88, Tryz.ntmps88
    go_wp2_with fail
    go_ret
    exact ⟨rfl, HB.out⟩
  · have hd : decide (b ≤ t) = false := by simpa using h
    by_cases h2 : r ≤ l
    · obtain rfl : v = true := by rw [HV.out]; simp [h2]
      clear HV
      go_enter Tryz.func88, Tryz.ntmps88
      go_wp2_with fail
      go_ret
      exact ⟨by first | rfl | simp, HB.out⟩
    · obtain rfl : v = false := by rw [HV.out]; simp [h, h2] <;> omega
      have hd2 : decide (r ≤ l) = false := by simpa using h2
      clear HV
      go_enter Tryz.func88, Tryz.ntmps88
      go_wp2_with fail
      go_ret
      exact ⟨by first | rfl | simp, HB.out⟩


def nearP (n f b : Int) : Int := if n < f then f else if b ≤ n then b - 1 else n
theorem near_any (n f b : Int) (h0 : -9223372036854775808 ≤ b - 1) (h1 : b - 1 ≤ 9223372036854775807) (w : World) :
    Calls Tryz.prog 89 #[.int .i64 n, .int .i64 f, .int .i64 b] w fun e w' => e = .returned (.int .i64 (nearP n f b)) ∧ w = w' := by
  have hcs : (n < f ∧ nearP n f b = f) ∨ (¬ n < f ∧ b ≤ n ∧ nearP n f b = b - 1) ∨ (¬ n < f ∧ ¬ b ≤ n ∧ nearP n f b = n) := by
    unfold nearP
    by_cases g : n < f
    · exact .inl ⟨g, if_pos g⟩
    · by_cases g2 : b ≤ n
      · exact .inr (.inl ⟨g, g2, by rw [if_neg g, if_pos g2]⟩)
      · exact .inr (.inr ⟨g, g2, by rw [if_neg g, if_neg g2]⟩)
  rcases hcs with ⟨g, e⟩ | ⟨g, g2, e⟩ | ⟨g, g2, e⟩
  all_goals
    rw [e]
    clear e
    go_enter Tryz.func89, Tryz.ntmps89
    go_wp2_with fail
    go_ret
    exact ⟨rfl, rfl⟩
end Go.Proofs.YtfnamfkjbkhgeaaGreatDoor

namespace Go.Proofs.YtfnamfkjbkhgeaaGreatDoor

open Go Go.RowKit

theorem new4 (w : World) (T U V X : TypeId) (x y z u : Array Value) :
    Blk ((((w.alloc (.cells x T)).alloc (.cells y U)).alloc (.cells z V)).alloc (.cells u X)) w.heap.size T x ∧ Blk ((((w.alloc (.cells x T)).alloc (.cells y U)).alloc (.cells z V)).alloc (.cells u X)) (w.heap.size + 1) U y ∧
    Blk ((((w.alloc (.cells x T)).alloc (.cells y U)).alloc (.cells z V)).alloc (.cells u X)) (w.heap.size + 1 + 1) V z ∧ Blk ((((w.alloc (.cells x T)).alloc (.cells y U)).alloc (.cells z V)).alloc (.cells u X)) (w.heap.size + 1 + 1 + 1) X u ∧
    Below w.heap.size w ((((w.alloc (.cells x T)).alloc (.cells y U)).alloc (.cells z V)).alloc (.cells u X)) := by
  obtain ⟨h1, h2, h3, hb⟩ := new3 w T U V x y z
  refine ⟨h1.alloc _, h2.alloc _, h3.alloc _, ?_, hb.alloc (by simp; omega) _⟩
  have := Blk.new (((w.alloc (.cells x T)).alloc (.cells y U)).alloc (.cells z V)) X u
  simpa using this

def refMeetT (t l b r t' l' b' r' : Int) : Int × Int × Int × Int :=
  if (bEm t l b r || (bEm t' l' b' r' || bEm (max t t') (max l l') (min b b') (min r r'))) = true then (0, 0, 0, 0) else (max t t', max l l', min b b', min r r')

/-- Four boxes of the call's own. -/
def KM (w : World) (x y z u : Array Value) (W : World) : Prop := Blk W w.heap.size 29 x ∧ Blk W (w.heap.size + 1) 29 y ∧ Blk W (w.heap.size + 1 + 1) 29 z ∧ Blk W (w.heap.size + 1 + 1 + 1) 29 u ∧ Below w.heap.size w W
theorem KM.set {w W : World} {x y z u : Array Value} (h : KM w x y z u W) (i : Nat) (v : Value) : KM w x y z (u.setIfInBounds i v) (W.setCell ⟨w.heap.size + 1 + 1 + 1, i, none⟩ v) :=
  ⟨Blk.far h.1 (by simp <;> omega) _, Blk.far h.2.1 (by simp <;> omega) _, Blk.far h.2.2.1 (by simp <;> omega) _, h.2.2.2.1.set_ i v, h.2.2.2.2.setCell (by simp <;> omega) _⟩
theorem KM.next {w W W' : World} {x y z u : Array Value} (h : KM w x y z u W) (hb : Below W.heap.size W W') : KM w x y z u W' := ⟨h.1.next hb, h.2.1.next hb, h.2.2.1.next hb, h.2.2.2.1.next hb, bstep h.2.2.2.2 hb⟩
set_option maxRecDepth 100000 in
set_option maxHeartbeats 8000000 in
theorem refMeet_any (t l b r t' l' b' r' : Int) (w : World) :
    Calls Tryz.prog 87 #[bV t l b r, bV t' l' b' r'] w fun e w' => e = .returned (bV (refMeetT t l b r t' l' b' r').1 (refMeetT t l b r t' l' b' r').2.1 (refMeetT t l b r t' l' b' r').2.2.1 (refMeetT t l b r t' l' b' r').2.2.2) ∧ Below w.heap.size w w' := by
  have HE1 := Lib.hid (fun W => refEmpty_any t l b r W)
  have HE2 := Lib.hid (fun W => refEmpty_any t' l' b' r' W)
  have HE3 := Lib.hid (fun W => refEmpty_any (max t t') (max l l') (min b b') (min r r') W)
  have HV : Hid (refMeetT t l b r t' l' b' r' = if (bEm t l b r || (bEm t' l' b' r' || bEm (max t t') (max l l') (min b b') (min r r'))) = true then (0, 0, 0, 0) else (max t t', max l l', min b b', min r r')) := Lib.hid rfl
  generalize refMeetT t l b r t' l' b' r' = res at *
  generalize bEm t l b r = v1 at *
  generalize bEm t' l' b' r' = v2 at *
  generalize bEm (max t t') (max l l') (min b b') (min r r') = v3 at *
  have h1 : Hid ((t' > t ∧ max t t' = t') ∨ (¬ t' > t ∧ max t t' = t)) := Lib.hid (by omega)
  have h2 : Hid ((l' > l ∧ max l l' = l') ∨ (¬ l' > l ∧ max l l' = l)) := Lib.hid (by omega)
  have h3 : Hid ((b' < b ∧ min b b' = b') ∨ (¬ b' < b ∧ min b b' = b)) := Lib.hid (by omega)
  have h4 : Hid ((r' < r ∧ min r r' = r') ∨ (¬ r' < r ∧ min r r' = r)) := Lib.hid (by omega)
  generalize max t t' = xt at *
  generalize max l l' = xl at *
  generalize min b b' = xb at *
  generalize min r r' = xr at *
  have HK0 := Lib.hid (show KM w (bC t l b r) (bC t' l' b' r') (bC 0 0 0 0) (bC t l b r) _ from new4 w 29 29 29 29 (bC t l b r) (bC t' l' b' r') (bC 0 0 0 0) (bC t l b r))
  unfold bV at *
  go_enter Tryz.func87, Tryz.ntmps87
  go_upto_if 11 with (fail)
  refine world_gen (KM w (bC t l b r) (bC t' l' b' r') (bC 0 0 0 0) (bC t l b r)) HK0.out ?_
  clear HK0
  intro W0 HW0
  replace HW0 := Lib.hid HW0
  go_cut [5] (fun s wx => s = .pointer (some ⟨w.heap.size + 1 + 1 + 1, 0, none⟩) ∧ KM w (bC t l b r) (bC t' l' b' r') (bC 0 0 0 0) (bC xt l b r) wx)
  case first =>
    obtain ⟨d0, d1, d2, d3, _⟩ := blk4 HW0.out.2.1
    obtain ⟨g0, g1, g2, g3, z0, z1, z2, z3⟩ := blk4 HW0.out.2.2.2.1
    rcases h1.out with ⟨c, rfl⟩ | ⟨c, rfl⟩
    · go_wp2_with fail
      go_meet
      exact ⟨rfl, HW0.out.set 0 _⟩
    · go_wp2_with fail
      go_meet
      exact ⟨rfl, HW0.out⟩
  case rest =>
    obtain ⟨rfl, hk⟩ := hcut
    clear HW0 h1
    replace HW0 := Lib.hid hk
    clear hk
    obtain ⟨d0, d1, d2, d3, _⟩ := blk4 HW0.out.2.1
    obtain ⟨g0, g1, g2, g3, z0, z1, z2, z3⟩ := blk4 HW0.out.2.2.2.1
    go_upto_if 19 with (fail)
    go_cut [5] (fun s wx => s = .pointer (some ⟨w.heap.size + 1 + 1 + 1, 0, none⟩) ∧ KM w (bC t l b r) (bC t' l' b' r') (bC 0 0 0 0) (bC xt xl b r) wx)
    case first =>
      rcases h2.out with ⟨c, rfl⟩ | ⟨c, rfl⟩
      · go_wp2_with fail
        go_meet
        exact ⟨rfl, HW0.out.set 1 _⟩
      · go_wp2_with fail
        go_meet
        exact ⟨rfl, HW0.out⟩
    case rest =>
    obtain ⟨rfl, hk⟩ := hcut
    clear HW0 h2 d0 d1 d2 d3 g0 g1 g2 g3 z0 z1 z2 z3
    replace HW0 := Lib.hid hk
    clear hk
    obtain ⟨d0, d1, d2, d3, _⟩ := blk4 HW0.out.2.1
    obtain ⟨g0, g1, g2, g3, z0, z1, z2, z3⟩ := blk4 HW0.out.2.2.2.1
    go_upto_if 27 with (fail)
    go_cut [5] (fun s wx => s = .pointer (some ⟨w.heap.size + 1 + 1 + 1, 0, none⟩) ∧ KM w (bC t l b r) (bC t' l' b' r') (bC 0 0 0 0) (bC xt xl xb r) wx)
    case first =>
      rcases h3.out with ⟨c, rfl⟩ | ⟨c, rfl⟩
      · go_wp2_with fail
        go_meet
        exact ⟨rfl, HW0.out.set 2 _⟩
      · go_wp2_with fail
        go_meet
        exact ⟨rfl, HW0.out⟩
    case rest =>
    obtain ⟨rfl, hk⟩ := hcut
    clear HW0 h3 d0 d1 d2 d3 g0 g1 g2 g3 z0 z1 z2 z3
    replace HW0 := Lib.hid hk
    clear hk
    obtain ⟨d0, d1, d2, d3, _⟩ := blk4 HW0.out.2.1
    obtain ⟨g0, g1, g2, g3, z0, z1, z2, z3⟩ := blk4 HW0.out.2.2.2.1
    go_upto_if 35 with (fail)
    go_cut [5] (fun s wx => s = .pointer (some ⟨w.heap.size + 1 + 1 + 1, 0, none⟩) ∧ KM w (bC t l b r) (bC t' l' b' r') (bC 0 0 0 0) (bC xt xl xb xr) wx)
    case first =>
      rcases h4.out with ⟨c, rfl⟩ | ⟨c, rfl⟩
      · go_wp2_with fail
        go_meet
        exact ⟨rfl, HW0.out.set 3 _⟩
      · go_wp2_with fail
        go_meet
        exact ⟨rfl, HW0.out⟩
    case rest =>
    obtain ⟨rfl, hk⟩ := hcut
    clear HW0 h4 d0 d1 d2 d3 g0 g1 g2 g3 z0 z1 z2 z3
    replace HW0 := Lib.hid hk
    clear hk
    obtain ⟨c0, c1, c2, c3, _⟩ := blk4 HW0.out.1
    go_wp2_with fail
    refine (HE1.out _).mono ?_
    rintro e w1 ⟨rfl, hb1⟩
    have HK1 := Lib.hid (HW0.out.next hb1)
    clear hb1 c0 c1 c2 c3 HW0
    obtain ⟨_, _, _, _, z0, z1, z2, z3⟩ := blk4 HK1.out.2.2.1
    cases v1
    · obtain ⟨c0, c1, c2, c3, _⟩ := blk4 HK1.out.2.1
      clear z0 z1 z2 z3
      go_wp2_with fail
      refine (HE2.out _).mono ?_
      rintro e w2 ⟨rfl, hb2⟩
      have HK2 := Lib.hid (HK1.out.next hb2)
      clear hb2 c0 c1 c2 c3 HK1
      cases v2
      · obtain ⟨c0, c1, c2, c3, _⟩ := blk4 HK2.out.2.2.2.1
        go_wp2_with fail
        refine (HE3.out _).mono ?_
        rintro e w3 ⟨rfl, hb3⟩
        have HK3 := Lib.hid (HK2.out.next hb3)
        clear hb3 c0 c1 c2 c3 HK2
        obtain ⟨_, _, _, _, z0, z1, z2, z3⟩ := blk4 HK3.out.2.2.1
        cases v3
        · obtain rfl : res = (xt, xl, xb, xr) := by rw [HV.out]; simp
          obtain ⟨c0, c1, c2, c3, _⟩ := blk4 HK3.out.2.2.2.1
          go_wp2_with fail
          obtain ⟨e0, e1, e2, e3, _⟩ := blk4 (repl4 HK3.out.2.2.1 (.int .i64 xt) (.int .i64 xl) (.int .i64 xb) (.int .i64 xr)).here
          exact bodyPost_ret (v := .agg #[.int .i64 xt, .int .i64 xl, .int .i64 xb, .int .i64 xr]) (by simp [results, Tryz.results87, go_sem, e0, e1, e2, e3]) rfl ⟨rfl, (((HK3.out.2.2.2.2.setCell (by simp; omega) _).setCell (by simp; omega) _).setCell (by simp; omega) _).setCell (by simp; omega) _⟩
        · obtain rfl : res = (0, 0, 0, 0) := by rw [HV.out]; simp
          go_wp2_with fail
          obtain ⟨e0, e1, e2, e3, _⟩ := blk4 (repl4 HK3.out.2.2.1 (.int .i64 0) (.int .i64 0) (.int .i64 0) (.int .i64 0)).here
          exact bodyPost_ret (v := .agg #[.int .i64 0, .int .i64 0, .int .i64 0, .int .i64 0]) (by simp [results, Tryz.results87, go_sem, e0, e1, e2, e3]) rfl ⟨rfl, (((HK3.out.2.2.2.2.setCell (by simp; omega) _).setCell (by simp; omega) _).setCell (by simp; omega) _).setCell (by simp; omega) _⟩
      · obtain rfl : res = (0, 0, 0, 0) := by rw [HV.out]; simp
        obtain ⟨_, _, _, _, z0, z1, z2, z3⟩ := blk4 HK2.out.2.2.1
        go_wp2_with fail
        obtain ⟨e0, e1, e2, e3, _⟩ := blk4 (repl4 HK2.out.2.2.1 (.int .i64 0) (.int .i64 0) (.int .i64 0) (.int .i64 0)).here
        exact bodyPost_ret (v := .agg #[.int .i64 0, .int .i64 0, .int .i64 0, .int .i64 0]) (by simp [results, Tryz.results87, go_sem, e0, e1, e2, e3]) rfl ⟨rfl, (((HK2.out.2.2.2.2.setCell (by simp; omega) _).setCell (by simp; omega) _).setCell (by simp; omega) _).setCell (by simp; omega) _⟩
    · obtain rfl : res = (0, 0, 0, 0) := by rw [HV.out]; simp
      go_wp2_with fail
      obtain ⟨e0, e1, e2, e3, _⟩ := blk4 (repl4 HK1.out.2.2.1 (.int .i64 0) (.int .i64 0) (.int .i64 0) (.int .i64 0)).here
      exact bodyPost_ret (v := .agg #[.int .i64 0, .int .i64 0, .int .i64 0, .int .i64 0]) (by simp [results, Tryz.results87, go_sem, e0, e1, e2, e3]) rfl ⟨rfl, (((HK1.out.2.2.2.2.setCell (by simp; omega) _).setCell (by simp; omega) _).setCell (by simp; omega) _).setCell (by simp; omega) _⟩
end Go.Proofs.YtfnamfkjbkhgeaaGreatDoor

namespace Go.Proofs.YtfnamfkjbkhgeaaGreatDoor

open Go Go.RowKit

def refClampT (t l b r p q : Int) : Int × Int := if bEm t l b r = true then (t, l) else (nearP p t b, nearP q l r)
set_option maxRecDepth 100000 in
set_option maxHeartbeats 4000000 in
theorem refBClamp_any (t l b r p q : Int) (_ht : Sm t) (_hl : Sm l) (hb0 : Sm b) (hr : Sm r) (w : World) :
    Calls Tryz.prog 44 #[bV t l b r, pV p q] w fun e w' => e = .returned (pV (refClampT t l b r p q).1 (refClampT t l b r p q).2) ∧ Below w.heap.size w w' := by
  unfold Sm at *
  have HE := Lib.hid (fun W => refEmpty_any t l b r W)
  have HN1 := Lib.hid (fun W => calls_same (near_any p t b (by omega) (by omega) W))
  have HN2 := Lib.hid (fun W => calls_same (near_any q l r (by omega) (by omega) W))
  have HV : Hid ((bEm t l b r = true → refClampT t l b r p q = (t, l)) ∧ (bEm t l b r = false → refClampT t l b r p q = (nearP p t b, nearP q l r))) :=
    Lib.hid ⟨fun h => if_pos h, fun h => if_neg (by rw [h]; simp)⟩
  generalize nearP p t b = x at *
  generalize nearP q l r = y at *
  generalize refClampT t l b r p q = res at *
  clear _ht _hl hb0 hr
  have HK := Lib.hid (new3 w 29 37 37 (bC t l b r) (sC p q) (sC 0 0))
  unfold bV pV at *
  cases hx : bEm t l b r
  · obtain rfl := HV.out.2 hx
    rw [hx] at HE
    clear hx HV
    go_enter Tryz.func44, Tryz.ntmps44
    go_wp2_with fail
    refine (HE.out _).mono ?_
    rintro e w1 ⟨rfl, hb1⟩
    go_wp2_with fail
    refine world_gen (fun W => Blk W w.heap.size 29 (bC t l b r) ∧ Blk W (w.heap.size + 1) 37 (sC p q) ∧ Blk W (w.heap.size + 1 + 1) 37 (sC 0 0) ∧ Below w.heap.size w W)
      ⟨HK.out.1.next hb1, HK.out.2.1.next hb1, HK.out.2.2.1.next hb1, bstep HK.out.2.2.2 hb1⟩ ?_
    intro W ⟨k0, k1, k2, kb⟩
    clear hb1
    have HC := Lib.hid (fun w' (h : Only [w.heap.size + 1 + 1] W w') => And.intro (blk4 (h.blk k0 (by simp; omega))) (blk2 (h.blk k1 (by simp))))
    have HB := Lib.hid kb
    have HP := Lib.hid k2
    clear k0 k1 k2 kb
    refine wp_region_mix_lit (by kernel_rfl) [(6, .call (.int .i64 x)), (13, .call (.int .i64 y)), (15, .store (w.heap.size + 1 + 1) 37 (sC 0 0) (fun _ => sC x y))] (by kernel_rfl) (by kernel_rfl) (by kernel_rfl) (by rfl) (by simp [apartK] <;> omega) (by simp [startK]; exact HP.out) (by simp [stabK]) (⟨fun _ => undef, by simp [okK]⟩) (fun β hβ => ?_)
    repeat (
      refine lex_val (v := ?_) rfl rfl (fun w' hf => ?_) ?_
      rotate_left
      · obtain ⟨⟨c0, c1, c2, c3, _⟩, d0, d1, _⟩ := HC.out w' hf.only; go_simp
        try rfl
      try simp only [Act.put, List.setIfInBounds_toArray, List.set_cons_zero, List.set_cons_succ])
    refine lex_call (f := 89) (args := ?_) rfl rfl (fun w' hf => ?_) (fun w' hf => ?_) ?_
    rotate_left
    · go_simp
      try rfl
    · exact HN1.out w'
    try simp only [Act.put, List.setIfInBounds_toArray, List.set_cons_zero, List.set_cons_succ]
    repeat (
      refine lex_val (v := ?_) rfl rfl (fun w' hf => ?_) ?_
      rotate_left
      · obtain ⟨⟨c0, c1, c2, c3, _⟩, d0, d1, _⟩ := HC.out w' hf.only; go_simp
        try rfl
      try simp only [Act.put, List.setIfInBounds_toArray, List.set_cons_zero, List.set_cons_succ])
    refine lex_call (f := 89) (args := ?_) rfl rfl (fun w' hf => ?_) (fun w' hf => ?_) ?_
    rotate_left
    · go_simp
      try rfl
    · exact HN2.out w'
    try simp only [Act.put, List.setIfInBounds_toArray, List.set_cons_zero, List.set_cons_succ]
    repeat (
      refine lex_val (v := ?_) rfl rfl (fun w' hf => ?_) ?_
      rotate_left
      · go_simp
        try rfl
      try simp only [Act.put, List.setIfInBounds_toArray, List.set_cons_zero, List.set_cons_succ])
    refine lex_store rfl rfl (fun w' hf hB => ⟨_, ?_, repl2 hB _ _⟩) ?_
    · have gB := blk2 hB
      go_simp
    try simp only [Act.put]
    refine lex_nil fun w' he => ?_
    obtain ⟨e0, e1, _⟩ := blk2 (he.facts 15)
    have HB3 := Lib.hid (HB.out.trans (he.only.below (B := w.heap.size) HB.out.size (by simp [stores, Kind.at_] <;> omega)))
    clear he
    go_wp2_with fail
    exact bodyPost_ret (v := .agg #[.int .i64 x, .int .i64 y]) (by simp [results, Tryz.results44, go_sem, e0, e1]) rfl ⟨rfl, HB3.out⟩
  · obtain rfl := HV.out.1 hx
    rw [hx] at HE
    clear hx HV
    go_enter Tryz.func44, Tryz.ntmps44
    go_wp2_with fail
    refine (HE.out _).mono ?_
    rintro e w1 ⟨rfl, hb1⟩
    obtain ⟨c0, c1, c2, c3, _⟩ := blk4 (HK.out.1.next hb1)
    have HK1 := Lib.hid (HK.out.2.2.1.next hb1)
    obtain ⟨_, _, z0, z1⟩ := blk2 HK1.out
    have HB1 := Lib.hid (bstep HK.out.2.2.2 hb1)
    clear hb1
    go_wp2_with fail
    obtain ⟨e0, e1, _⟩ := blk2 (repl2 HK1.out (.int .i64 t) (.int .i64 l)).here
    exact bodyPost_ret (v := .agg #[.int .i64 t, .int .i64 l]) (by simp [results, Tryz.results44, go_sem, e0, e1]) rfl ⟨rfl, (HB1.out.setCell (by simp; omega) _).setCell (by simp; omega) _⟩

def refSpanT (n first last : Int) : Int × Int × Bool :=
  if first < 0 ∨ last < 0 ∨ n < 2 then (0, 0, false) else
  if (if first = 0 then 1 else first) < (if last = 0 ∨ n < last then n else last) then ((if first = 0 then 1 else first) - 1, (if last = 0 ∨ n < last then n else last), true) else (0, 0, false)

end Go.Proofs.YtfnamfkjbkhgeaaGreatDoor

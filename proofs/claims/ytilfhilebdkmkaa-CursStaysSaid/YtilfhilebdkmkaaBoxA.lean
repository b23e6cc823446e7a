/-
  Boxes: the sides of a box, a box of two sides.
-/
import Derived.Test.YtilfhilebdkmkaaMixE
namespace Go.Proofs.Ytilfhilebdkmkaa

open Go Go.RowKit

def bV (t l b r : Int) : Value := .agg #[.int .i64 t, .int .i64 l, .int .i64 b, .int .i64 r]
def sV (f b : Int) : Value := .agg #[.int .i64 f, .int .i64 b]
abbrev bC (t l b r : Int) : Array Value := #[.int .i64 t, .int .i64 l, .int .i64 b, .int .i64 r]
abbrev sC (f b : Int) : Array Value := #[.int .i64 f, .int .i64 b]
theorem world_gen {P : Program} {c : Code} {Q : Exit → Act → World → Prop} {a : Act} (Φ : World → Prop) {W0 : World} (h : Φ W0) (k : ∀ W, Φ W → c.wp P Q a W) : c.wp P Q a W0 := k _ h
theorem blk1 {W : World} {b : Nat} {T : TypeId} {x : Value} (h : Blk W b T #[x]) : W.cell? ⟨b, 0, none⟩ = some x ∧ W.frozen? ⟨b, 0, none⟩ = false := ⟨h.cell 0, h.frozen 0⟩
theorem blk2 {W : World} {b : Nat} {T : TypeId} {x y : Value} (h : Blk W b T #[x, y]) : W.cell? ⟨b, 0, none⟩ = some x ∧ W.cell? ⟨b, 1, none⟩ = some y ∧ W.frozen? ⟨b, 0, none⟩ = false ∧ W.frozen? ⟨b, 1, none⟩ = false := ⟨h.cell 0, h.cell 1, h.frozen 0, h.frozen 1⟩
theorem blk4 {W : World} {b : Nat} {T : TypeId} {x y u v : Value} (h : Blk W b T #[x, y, u, v]) : W.cell? ⟨b, 0, none⟩ = some x ∧ W.cell? ⟨b, 1, none⟩ = some y ∧ W.cell? ⟨b, 2, none⟩ = some u ∧ W.cell? ⟨b, 3, none⟩ = some v ∧ W.frozen? ⟨b, 0, none⟩ = false ∧ W.frozen? ⟨b, 1, none⟩ = false ∧ W.frozen? ⟨b, 2, none⟩ = false ∧ W.frozen? ⟨b, 3, none⟩ = false :=
  ⟨h.cell 0, h.cell 1, h.cell 2, h.cell 3, h.frozen 0, h.frozen 1, h.frozen 2, h.frozen 3⟩
/-- New boxes, one behind the other. -/
theorem new1 (w : World) (T : TypeId) (x : Array Value) : Blk (w.alloc (.cells x T)) w.heap.size T x ∧ Below w.heap.size w (w.alloc (.cells x T)) := ⟨Blk.new _ _ _, (Below.refl _ _).alloc (Nat.le_refl _) _⟩
theorem new2 (w : World) (T U : TypeId) (x y : Array Value) : Blk ((w.alloc (.cells x T)).alloc (.cells y U)) w.heap.size T x ∧ Blk ((w.alloc (.cells x T)).alloc (.cells y U)) (w.heap.size + 1) U y ∧ Below w.heap.size w ((w.alloc (.cells x T)).alloc (.cells y U)) :=
  ⟨(Blk.new _ _ _).alloc _, by have := Blk.new (w.alloc (.cells x T)) U y; simpa using this, ((Below.refl _ _).alloc (Nat.le_refl _) _).alloc (by simp) _⟩
theorem new3 (w : World) (T U V : TypeId) (x y z : Array Value) : Blk (((w.alloc (.cells x T)).alloc (.cells y U)).alloc (.cells z V)) w.heap.size T x ∧ Blk (((w.alloc (.cells x T)).alloc (.cells y U)).alloc (.cells z V)) (w.heap.size + 1) U y ∧
    Blk (((w.alloc (.cells x T)).alloc (.cells y U)).alloc (.cells z V)) (w.heap.size + 1 + 1) V z ∧ Below w.heap.size w (((w.alloc (.cells x T)).alloc (.cells y U)).alloc (.cells z V)) :=
  ⟨((Blk.new _ _ _).alloc _).alloc _, by have := (Blk.new (w.alloc (.cells x T)) U y).alloc (.cells z V); simpa using this, by have := Blk.new ((w.alloc (.cells x T)).alloc (.cells y U)) V z; simpa using this, (((Below.refl _ _).alloc (Nat.le_refl _) _).alloc (by simp) _).alloc (by simp; omega) _⟩

set_option maxHeartbeats 1000000 in
theorem sides_any (t l b r : Int) (w : World) :
    Calls Try.prog 57 #[bV t l b r] w fun e w' => e = .returned (.tuple #[sV t b, sV l r]) ∧ Below w.heap.size w w' := by
  unfold bV sV
  go_enter Try.func57, Try.ntmps57
  go_wp2_with fail
  refine world_gen (fun W => Blk W w.heap.size 29 (bC t l b r) ∧ Blk W (w.heap.size + 1) 85 (sC 0 0) ∧ Blk W (w.heap.size + 1 + 1) 85 (sC 0 0) ∧ Below w.heap.size w W) (new3 w _ _ _ _ _ _) ?_
  intro W ⟨h1, h2, h3, hb⟩
  have HC := Lib.hid (fun w' (h : Only [w.heap.size + 1, w.heap.size + 1 + 1] W w') => blk4 (h.blk h1 (by simp; omega)))
  refine wp_region_mix_lit (by kernel_rfl) [(10, .store (w.heap.size + 1) 85 (sC 0 0) (fun _ => sC t b)), (11, .store (w.heap.size + 1 + 1) 85 (sC 0 0) (fun _ => sC l r))] (by kernel_rfl) (by rfl) (by kernel_rfl) (by rfl)
    (by simp [apartK]) (by simp [startK]; exact ⟨h2, h3⟩) (by simp [stabK]) ⟨fun _ => undef, by simp [okK]⟩ (fun β _ => ?_)
  repeat (
    refine lex_val (v := ?_) rfl rfl (fun w' hf => ?_) ?_
    rotate_left
    · obtain ⟨c0, c1, c2, c3, _⟩ := HC.out w' hf.only
      go_simp
      rfl
    simp only [Act.put, List.setIfInBounds_toArray, List.set_cons_zero, List.set_cons_succ])
  refine lex_store rfl rfl (fun w' hf hB => ⟨_, ?_, repl2 hB _ _⟩) ?_
  · obtain ⟨g0, g1, z0, z1⟩ := blk2 hB
    go_simp
  simp only [Act.put]
  refine lex_store rfl rfl (fun w' hf hB => ⟨_, ?_, repl2 hB _ _⟩) ?_
  · obtain ⟨g0, g1, z0, z1⟩ := blk2 hB
    go_simp
  simp only [Act.put]
  refine lex_nil fun w' he => ?_
  obtain ⟨e0, e1, _⟩ := blk2 (he.facts 10)
  obtain ⟨e2, e3, _⟩ := blk2 (he.facts 11)
  have HB := Lib.hid (hb.trans (he.only.below (B := w.heap.size) hb.size (by simp [stores, Kind.at_] <;> omega)))
  clear hb he h1 h2 h3 HC
  go_wp2_with fail
  exact bodyPost_ret (v := .tuple #[.agg #[.int .i64 t, .int .i64 b], .agg #[.int .i64 l, .int .i64 r]]) (by simp [results, Try.results57, go_sem, e0, e1, e2, e3]) rfl ⟨rfl, HB.out⟩
end Go.Proofs.Ytilfhilebdkmkaa

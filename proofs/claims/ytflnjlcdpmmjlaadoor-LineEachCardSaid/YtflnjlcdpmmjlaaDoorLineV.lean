/-
  The walks of the reference's Move, Insert and Delete.
-/
import Derived.Test.YtflnjlcdpmmjlaaDoorLineT
import Derived.Test.YtflnjlcdpmmjlaaDoorLineX
namespace Go.Proofs.YtflnjlcdpmmjlaaDoor

open Go Go.RowKit

theorem al (w : World) (o : Obj) : Below w.heap.size w (w.alloc o) := (Below.refl _ _).alloc (Nat.le_refl _) _
/-- A slice of cells as a letter. -/
def SlP (n : Nat) (u : Value) : Prop := ∃ A c, u = .slice A n c ∧ n ≤ c
def SlF (B : Nat) (L : List Cl) (u : Value) (W : World) : Prop := ∃ A c base, u = .slice A L.length c ∧ B ≤ base ∧ OCells W base (.slice A L.length c) L
theorem slF_stab (ks : Kinds) (wr : World) (L : List Cl) (ht : 29 ∉ boxes ks) : ∀ v w w', Kept ks wr w w' → SlF wr.heap.size L v w → SlF wr.heap.size L v w' := by
  rintro v w w' hk ⟨A, c, base, e, hb, ho⟩
  refine ⟨A, c, base, e, hb, ho.1, ?_⟩
  rcases ho.2 with hn | ⟨g, cap, cur, hv, hg, hh, rest⟩
  · exact .inl hn
  · refine .inr ⟨g, cap, cur, hv, hg, ?_, rest⟩
    rw [hk.block g (Blk.lt (show Blk w g _ cur from hh)) (by omega) (fun cs T fr e => by
      have e2 : some (Obj.cells cur 29 (0, 0)) = some (.cells cs T fr) := hh.symm.trans e
      injection e2 with e2
      injection e2 with _ e3 _
      rw [← e3]; exact ht)]
    exact hh
theorem sl_own {W : World} {B n : Nat} {f : FuncId} {args : Array Value} {l : List Cl} (hB : B ≤ W.heap.size) (hn : n = l.length) (h : Calls Tryd.prog f args W fun e w' => ∃ v, e = .returned v ∧ OCells w' W.heap.size v l ∧ Below W.heap.size W w') :
    Calls Tryd.prog f args W fun e w' => ∃ u, e = .returned u ∧ SlP n u ∧ SlF B l u w' ∧ Below W.heap.size W w' :=
  h.mono fun e w' ⟨v, he, ho, hb⟩ => by
    obtain ⟨A, c, rfl, hc⟩ := OCells.form ho
    exact ⟨_, he, ⟨A, c, by rw [hn], by omega⟩, ⟨A, c, _, rfl, hB, ho⟩, hb⟩
theorem SlF.own {B n c : Nat} {L : List Cl} {A : Option Addr} {W : World} (h : SlF B L (.slice A n c) W) (hn : n = L.length) : OCells W B (.slice A n c) L := by
  obtain ⟨A', c', base, e, hb, ho⟩ := h
  subst hn
  injection e with e1 e2 e3
  subst e1 e3
  exact World.ownsRow.mono ho hb
/-- A row of one's own stays while its block does. -/
theorem own_block {W W' : World} {b g n c : Nat} {L : List Cl} (h : OCells W b (.slice (some ⟨g, 0, none⟩) n c) L) (e : W'.heap[g]? = W.heap[g]?) : OCells W' b (.slice (some ⟨g, 0, none⟩) n c) L := by
  refine ⟨h.1, ?_⟩
  rcases h.2 with hn | ⟨g', cap, cur, hv, hg, hh, rest⟩
  · exact .inl hn
  · have hv2 := hv
    simp only [Value.slice.injEq, Option.some.injEq, Addr.mk.injEq, and_true] at hv2
    obtain ⟨rfl, _, _⟩ := hv2
    exact .inr ⟨g, cap, cur, hv, hg, e.trans hh, rest⟩
theorem own_blk {W : World} {b g n c : Nat} {L : List Cl} (h : OCells W b (.slice (some ⟨g, 0, none⟩) n c) L) : ∃ cur, Blk W g 29 cur := by
  rcases h.2 with ⟨hv, _⟩ | ⟨g', cap, cur, hv, _, hh, _⟩
  · cases hv
  · simp only [Value.slice.injEq, Option.some.injEq, Addr.mk.injEq, and_true] at hv
    obtain ⟨rfl, _, _⟩ := hv
    exact ⟨cur, hh⟩
/-- Three cells of a block, one behind the other. -/
def set3 (cs : Array Value) (i : Nat) (x : Cl) : Array Value := ((cs.setIfInBounds i (.int .i32 x.g)).setIfInBounds (i + 1) (.int .u8 x.r)).setIfInBounds (i + 2) (.bool x.k)
theorem repl3 {w : World} {b : Nat} {T : TypeId} {cs : Array Value} (h : Blk w b T cs) (i : Nat) (x : Cl) : Repl w (((w.setCell ⟨b, i, none⟩ (.int .i32 x.g)).setCell ⟨b, i + 1, none⟩ (.int .u8 x.r)).setCell ⟨b, i + 2, none⟩ (.bool x.k)) b T (set3 cs i x) :=
  (Repl.set h i _).trans ((Repl.set (h.set_ i _) (i + 1) _).trans (Repl.set ((h.set_ i _).set_ (i + 1) _) (i + 2) _))
theorem own_set {W W' : World} {b g n c : Nat} {L : List Cl} {cur : Array Value} (h : OCells W b (.slice (some ⟨g, 0, none⟩) n c) L) (hn : n = L.length) {k : Nat} (hk : k < L.length) (x : Cl) (hc : Blk W g 29 cur) (h' : Blk W' g 29 (set3 cur (k * 3) x)) :
    OCells W' b (.slice (some ⟨g, 0, none⟩) n c) (L.set k x) := by
  refine own_block (OCells.set3 h hn hk x) ?_
  have e := ((hc.set_ (k * 3) (.int .i32 x.g)).set_ (k * 3 + 1) (.int .u8 x.r)).set_ (k * 3 + 2) (.bool x.k)
  exact h'.trans e.symm
/-- What stands at a place of a row. -/
theorem cur3 {W : World} {b g n c : Nat} {L : List Cl} {cur : Array Value} (h : OCells W b (.slice (some ⟨g, 0, none⟩) n c) L) (hn : n = L.length) {k : Nat} (hk : k < L.length) (hc : Blk W g 29 cur) {w' : World} (hB : Blk w' g 29 cur) :
    w'.cell? ⟨g, k * 3, none⟩ = some (.int .i32 L[k].g) ∧ w'.cell? ⟨g, k * 3 + 1, none⟩ = some (.int .u8 L[k].r) ∧ w'.cell? ⟨g, k * 3 + 2, none⟩ = some (.bool L[k].k) ∧ w'.frozen? ⟨g, k * 3, none⟩ = false ∧ w'.frozen? ⟨g, k * 3 + 1, none⟩ = false ∧ w'.frozen? ⟨g, k * 3 + 2, none⟩ = false := by
  obtain ⟨d0, d1, d2, _⟩ := OCells.cell3 h hn hk
  rw [Blk.cell hc] at d0 d1 d2
  exact ⟨(hB.cell _).trans d0, (hB.cell _).trans d1, (hB.cell _).trans d2, hB.frozen _, hB.frozen _, hB.frozen _⟩
theorem ne_block {W : World} {g B : Nat} {x y : Array Value} (h : Blk W g 29 x) (h' : Blk W B 24 y) : g ≠ B := by
  rintro rfl
  unfold Blk at h h'
  rw [h] at h'
  injection h' with e
  injection e with _ e2
  exact absurd e2 (by decide)
theorem only_far {g : Nat} {W W' : World} (h : Only [g] W W') : W.grownBy W' (some g) := ⟨h.os, h.tape, h.output, h.size, fun k hk hne => h.block k hk (by simp; rintro rfl; exact hne rfl)⟩

/-- What is known in the midst of such a walk: the argument's box and that of what is answered, the box of what is made, its row. -/
structure Mid (w : World) (x y : Array Value) (B : Nat) (A : Option Addr) (n c : Nat) (size : Int) (L : List Cl) (W : World) : Prop where
  kl : KL w x y W
  box : Blk W B 24 #[.slice A n c, .int .i64 size]
  own : OCells W (w.heap.size + 2) (.slice A n c) L
  far : w.heap.size + 2 ≤ B
theorem Mid.next {w W W' : World} {x y : Array Value} {B n c : Nat} {A : Option Addr} {size : Int} {L : List Cl} (h : Mid w x y B A n c size L W) (hb : Below W.heap.size W W') : Mid w x y B A n c size L W' :=
  ⟨h.kl.next hb, h.box.next hb, h.own.next hb, h.far⟩
theorem Mid.set {w W W' : World} {x y : Array Value} {B n c g : Nat} {size : Int} {L L' : List Cl} (h : Mid w x y B (some ⟨g, 0, none⟩) n c size L W) (ho : Only [g] W W') (hg : w.heap.size + 2 ≤ g) (hne : g ≠ B) (hl : OCells W' (w.heap.size + 2) (.slice (some ⟨g, 0, none⟩) n c) L') : Mid w x y B (some ⟨g, 0, none⟩) n c size L' W' :=
  ⟨h.kl.far (only_far ho) hg, h.box.grown (only_far ho) (by simpa using fun e => hne e.symm), hl, h.far⟩
theorem Mid.fin {w W : World} {a b : Value} {B n c : Nat} {A : Option Addr} {size : Int} {L : List Cl} (h : Mid w #[a, b] #[.slice none 0 0, .int .i64 0] B A n c size L W) :
    ((W.setCell ⟨w.heap.size + 1, 0, none⟩ (.slice A n c)).setCell ⟨w.heap.size + 1, 1, none⟩ (.int .i64 size)).cell? ⟨w.heap.size + 1, 0, none⟩ = some (.slice A n c) ∧
    ((W.setCell ⟨w.heap.size + 1, 0, none⟩ (.slice A n c)).setCell ⟨w.heap.size + 1, 1, none⟩ (.int .i64 size)).cell? ⟨w.heap.size + 1, 1, none⟩ = some (.int .i64 size) ∧
    OCells ((W.setCell ⟨w.heap.size + 1, 0, none⟩ (.slice A n c)).setCell ⟨w.heap.size + 1, 1, none⟩ (.int .i64 size)) (w.heap.size + 2) (.slice A n c) L ∧
    Below w.heap.size w ((W.setCell ⟨w.heap.size + 1, 0, none⟩ (.slice A n c)).setCell ⟨w.heap.size + 1, 1, none⟩ (.int .i64 size)) := by
  have h2 := KL.store2 h.kl (.slice A n c) (.int .i64 size)
  exact ⟨(KL.res h2).1, (KL.res h2).2.1, OCells.far (OCells.far h.own (by omega) _ _) (by omega) _ _, h2.2.2⟩

theorem RCells.cell3 {w : World} {ad : Addr} {l : List Cl} (h : RCells w (some ad) l) {k : Nat} (hk : k < l.length) :
    w.cell? (ad.add (k * 3)) = some (.int .i32 l[k].g) ∧ w.cell? ⟨(ad.add (k * 3)).block, (ad.add (k * 3)).off + 1, none⟩ = some (.int .u8 l[k].r) ∧ w.cell? ⟨(ad.add (k * 3)).block, (ad.add (k * 3)).off + 2, none⟩ = some (.bool l[k].k) := by
  obtain ⟨ad', e, _, h0, h1, h2⟩ := h.at_ hk
  injection e with e
  subst e
  exact ⟨h0, h1, h2⟩


end Go.Proofs.YtflnjlcdpmmjlaaDoor

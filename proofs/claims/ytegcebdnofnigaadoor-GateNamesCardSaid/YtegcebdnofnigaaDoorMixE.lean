/-
  A region that draws its order, walked once in the order of the text: its steps.
-/
import Derived.Test.YtegcebdnofnigaaDoorMixD
import Derived.Deep.Quiet
namespace Go.Proofs.YtegcebdnofnigaaDoor

open Go Go.RowKit

section

variable {P : Program} {ks : Kinds} {ops : Array Oper} {wr : World} {β : Nat → Value} {Fin : Act → Prop} {i : Nat} {o : Oper} {rest : List Oper} {a : Act}

theorem lex_nil (h : Fin a) : Lex P ks ops wr β Fin i [] a := h
theorem lex_val {v : Value} (hk : kindOf ks i = .val) (hw : Region.wanted o (yielded ops a.tmps) = true) (h : ∀ w, Facts ks ops wr β i w → (execOp a.eval o).run P w = .ok (.value v) w)
    (hr : Lex P ks ops wr β Fin (i + 1) rest (a.put o.dst v)) : Lex P ks ops wr β Fin i (o :: rest) a := .inl ⟨hw, v, by rw [hk]; exact h, hr⟩
theorem lex_skip (hk : kindOf ks i = .val) (hw : Region.wanted o (yielded ops a.tmps) = false) (hr : Lex P ks ops wr β Fin (i + 1) rest (a.put o.dst undef)) : Lex P ks ops wr β Fin i (o :: rest) a := .inr ⟨hw, hk, hr⟩
theorem lex_call {u : Value} (hk : kindOf ks i = .call u) (hw : Region.wanted o (yielded ops a.tmps) = true) {f : FuncId} {args : Array Value} (hx : ∀ w, Facts ks ops wr β i w → (execOp a.eval o).run P w = .ok (.enter f args) w)
    (h : ∀ w, Facts ks ops wr β i w → Calls P f args w fun e w' => e = .returned u ∧ Below w.heap.size w w')
    (hr : Lex P ks ops wr β Fin (i + 1) rest (a.put o.dst u)) : Lex P ks ops wr β Fin i (o :: rest) a := .inl ⟨hw, u, by rw [hk]; exact ⟨rfl, fun w hf => ⟨f, args, hx w hf, h w hf⟩⟩, hr⟩
theorem lex_letter {p : Value → Prop} {F : Value → World → Prop} (hk : kindOf ks i = .letter p F) (hw : Region.wanted o (yielded ops a.tmps) = true) {f : FuncId} {args : Array Value} (hx : ∀ w, Facts ks ops wr β i w → (execOp a.eval o).run P w = .ok (.enter f args) w)
    (h : ∀ w, Facts ks ops wr β i w → Calls P f args w fun e w' => ∃ u, e = .returned u ∧ p u ∧ F u w' ∧ Below w.heap.size w w')
    (hr : Lex P ks ops wr β Fin (i + 1) rest (a.put o.dst (β i))) : Lex P ks ops wr β Fin i (o :: rest) a := .inl ⟨hw, β i, by rw [hk]; exact ⟨rfl, fun w hf => .inl ⟨f, args, hx w hf, (h w hf).mono fun _ _ ⟨u, h1, h2, h3, h4⟩ => ⟨u, h1, h2, h3, h4, fun e => by cases e⟩⟩⟩, hr⟩
/-- A call whose answer is of memory that nobody had. -/
theorem lex_fresh {p : Value → Prop} {F : Value → World → Prop} (hk : kindOf ks i = .fresh p F) (hw : Region.wanted o (yielded ops a.tmps) = true) {f : FuncId} {args : Array Value} (hx : ∀ w, Facts ks ops wr β i w → (execOp a.eval o).run P w = .ok (.enter f args) w)
    (h : ∀ w, Facts ks ops wr β i w → Calls P f args w fun e w' => ∃ u, e = .returned u ∧ p u ∧ F u w' ∧ Below w.heap.size w w' ∧ ∀ b ∈ blksOf u, w.heap.size ≤ b ∧ b < w'.heap.size)
    (hr : Lex P ks ops wr β Fin (i + 1) rest (a.put o.dst (β i))) : Lex P ks ops wr β Fin i (o :: rest) a := .inl ⟨hw, β i, by rw [hk]; exact ⟨rfl, fun w hf => .inl ⟨f, args, hx w hf, (h w hf).mono fun _ _ ⟨u, h1, h2, h3, h4, h5⟩ => ⟨u, h1, h2, h3, h4, fun _ => h5⟩⟩⟩, hr⟩
/-- An operation that makes memory of its own, and is no call: its answer is a letter. -/
theorem lex_made {p : Value → Prop} {F : Value → World → Prop} (hk : kindOf ks i = .letter p F) (hw : Region.wanted o (yielded ops a.tmps) = true)
    (h : ∀ w, Facts ks ops wr β i w → ∃ u w', (execOp a.eval o).run P w = .ok (.value u) w' ∧ p u ∧ F u w' ∧ Below w.heap.size w w')
    (hr : Lex P ks ops wr β Fin (i + 1) rest (a.put o.dst (β i))) : Lex P ks ops wr β Fin i (o :: rest) a := .inl ⟨hw, β i, by rw [hk]; exact ⟨rfl, fun w hf => .inr (let ⟨u, w', h1, h2, h3, h4⟩ := h w hf; ⟨u, w', h1, h2, h3, .inl h4, fun e => by cases e⟩)⟩, hr⟩
/-- An operation that uses up what it grows. -/
theorem lex_mild {p : Value → Prop} {F : Value → World → Prop} (hk : kindOf ks i = .letter p F) (hw : Region.wanted o (yielded ops a.tmps) = true)
    (h : ∀ w, Facts ks ops wr β i w → ∃ u w', (execOp a.eval o).run P w = .ok (.value u) w' ∧ p u ∧ F u w' ∧ MildK ks ops i wr w w')
    (hr : Lex P ks ops wr β Fin (i + 1) rest (a.put o.dst (β i))) : Lex P ks ops wr β Fin i (o :: rest) a := .inl ⟨hw, β i, by rw [hk]; exact ⟨rfl, fun w hf => .inr (let ⟨u, w', h1, h2, h3, h4⟩ := h w hf; ⟨u, w', h1, h2, h3, .inr (.inl h4), fun e => by cases e⟩)⟩, hr⟩
/-- A store into an old block of which nothing more is asked. -/
theorem lex_smear {b : Nat} (hk : kindOf ks i = .smear b) (hw : Region.wanted o (yielded ops a.tmps) = true)
    (h : ∀ w, Facts ks ops wr β i w → ∃ w', (execOp a.eval o).run P w = .ok .skip w' ∧ w.grownBy w' (some b) ∧ shp w'.heap[b]? = shp w.heap[b]?)
    (hr : Lex P ks ops wr β Fin (i + 1) rest (a.put o.dst undef)) : Lex P ks ops wr β Fin i (o :: rest) a := .inl ⟨hw, undef, by rw [hk]; exact ⟨rfl, h⟩, hr⟩
/-- An operation that grows what lies in an old block. -/
theorem lex_grow {b : Nat} {p : Value → Prop} {F : Value → World → Prop} (hk : kindOf ks i = .grow b p F) (hw : Region.wanted o (yielded ops a.tmps) = true)
    (h : ∀ w, Facts ks ops wr β i w → ∃ u w', (execOp a.eval o).run P w = .ok (.value u) w' ∧ p u ∧ F u w' ∧ w.grownBy w' (some b))
    (hr : Lex P ks ops wr β Fin (i + 1) rest (a.put o.dst (β i))) : Lex P ks ops wr β Fin i (o :: rest) a := .inl ⟨hw, β i, by rw [hk]; exact ⟨rfl, fun w hf => .inr (let ⟨u, w', h1, h2, h3, h4⟩ := h w hf; ⟨u, w', h1, h2, h3, .inr (.inr ⟨b, rfl, h4⟩), fun e => by cases e⟩)⟩, hr⟩
theorem lex_store {b : Nat} {T : TypeId} {old : Array Value} {new : (Nat → Value) → Array Value} (hk : kindOf ks i = .store b T old new) (hw : Region.wanted o (yielded ops a.tmps) = true)
    (h : ∀ w, Facts ks ops wr β i w → Blk w b T old → ∃ w', (execOp a.eval o).run P w = .ok .skip w' ∧ Repl w w' b T (new β))
    (hr : Lex P ks ops wr β Fin (i + 1) rest (a.put o.dst undef)) : Lex P ks ops wr β Fin i (o :: rest) a := .inl ⟨hw, undef, by rw [hk]; exact ⟨rfl, h⟩, hr⟩
theorem lex_alloc {s : Nat} {T : TypeId} {zero : Array Value} {new : (Nat → Value) → Array Value} (hk : kindOf ks i = .alloc s T zero new) (hw : Region.wanted o (yielded ops a.tmps) = true)
    (h : ∀ w : World, (execOp a.eval o).run P w = .ok (.value (.pointer (some ⟨w.heap.size, 0, none⟩))) (w.alloc (.cells zero T)))
    (hr : Lex P ks ops wr β Fin (i + 1) rest (a.put o.dst (β i))) : Lex P ks ops wr β Fin i (o :: rest) a := .inl ⟨hw, β i, by rw [hk]; exact ⟨rfl, h⟩, hr⟩
theorem lex_init {al : Nat} {T : TypeId} {zero : Array Value} {new : (Nat → Value) → Array Value} (hk : kindOf ks i = .init al) (hal : kindOf ks al = .alloc i T zero new) (hw : Region.wanted o (yielded ops a.tmps) = true)
    (h : ∀ b w, β al = .pointer (some ⟨b, 0, none⟩) → Facts ks ops wr β i w → Blk w b T zero → ∃ w', (execOp a.eval o).run P w = .ok .skip w' ∧ Repl w w' b T (new β))
    (hr : Lex P ks ops wr β Fin (i + 1) rest (a.put o.dst undef)) : Lex P ks ops wr β Fin i (o :: rest) a := .inl ⟨hw, undef, by
      rw [hk]
      refine ⟨rfl, fun s T' zero' new' hal' => ?_⟩
      rw [hal] at hal'
      injection hal' with e1 e2 e3 e4
      subst e1 e2 e3 e4
      exact h, hr⟩
/-- The letters are as they may be. -/
theorem ok_all {w : World} (h : ∀ x ∈ ks, okK w β x.1 x.2) (i : Nat) : okK w β i (kindOf ks i) := by
  cases hk : kindOf ks i with
  | val => exact trivial
  | call v => exact trivial
  | store b T o n => exact trivial
  | init al => exact trivial
  | smear b => exact trivial
  | alloc s T z n => exact h _ (kind_mem hk (by simp))
  | letterB f p F => exact h _ (kind_mem hk (by simp))
/-- A store of some cells, one behind the other. -/
theorem repl2 {w : World} {b : Nat} {T : TypeId} {cs : Array Value} (h : Blk w b T cs) (u v : Value) : Repl w ((w.setCell ⟨b, 0, none⟩ u).setCell ⟨b, 1, none⟩ v) b T ((cs.setIfInBounds 0 u).setIfInBounds 1 v) :=
  (Repl.set h 0 u).trans (Repl.set (h.set_ 0 u) 1 v)
theorem repl4 {w : World} {b : Nat} {T : TypeId} {cs : Array Value} (h : Blk w b T cs) (u v x y : Value) : Repl w ((((w.setCell ⟨b, 0, none⟩ u).setCell ⟨b, 1, none⟩ v).setCell ⟨b, 2, none⟩ x).setCell ⟨b, 3, none⟩ y) b T ((((cs.setIfInBounds 0 u).setIfInBounds 1 v).setIfInBounds 2 x).setIfInBounds 3 y) :=
  (repl2 h u v).trans ((Repl.set ((h.set_ 0 u).set_ 1 v) 2 x).trans (Repl.set (((h.set_ 0 u).set_ 1 v).set_ 2 x) 3 y))
end

theorem wp_region_mix_lit {P : Program} {id : Nat} {l : List Oper} {a0 : Act} {w : World} {Q : Exit → Act → World → Prop} (hm : P.follows .mixedOrders = true) (ks : Kinds)
    (htext : textOk l.toArray = true) (htied : tiedK l.toArray ks = true) (hslots : slotsOk l.toArray a0.tmps.size = true) (hkeys : ks.all (fun x => decide (x.1 < l.toArray.size)) = true)
    (hapart : ks.Pairwise fun x y => apartK x.2 y.2) (hstart : ∀ x ∈ ks, startK w x.2) (hstab : ∀ x ∈ ks, stabK ks w x.2)
    (hok : ∃ β, ∀ x ∈ ks, okK w β x.1 x.2)
    (hwalk : ∀ β, (∀ i, okK w β i (kindOf ks i)) → Lex P ks l.toArray w β (fun a => ∀ w', AtEnd ks w β w' → Q .normal a w') 0 l a0) :
    (Code.region id l.toArray true).wp P Q a0 w :=
  wp_region_mix hm ks htext htied hslots hkeys hapart hstart hstab (let ⟨β, h⟩ := hok; ⟨β, ok_all h⟩) (fun β hβ => by simpa using hwalk β hβ)
end Go.Proofs.YtegcebdnofnigaaDoor

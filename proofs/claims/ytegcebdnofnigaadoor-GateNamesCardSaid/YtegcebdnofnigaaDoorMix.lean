/-
  A region that draws its order, walked once in the order of the text: its operations read, call, make boxes, store. What a call hands back, and where a box lies, are letters where they hang on the order. (No statement of the seat is named here.)
-/
import Derived.Test.YtegcebdnofnigaaDoorEach
namespace Go.Proofs.YtegcebdnofnigaaDoor

open Go Go.RowKit

/-- The later world is as the earlier one was, but for the blocks S; more may have come. -/
structure Only (S : List Nat) (wr w : World) : Prop where
  os : w.os = wr.os
  tape : w.tape = wr.tape
  output : w.output = wr.output
  size : wr.heap.size ≤ w.heap.size
  block : ∀ k, k < wr.heap.size → k ∉ S → w.heap[k]? = wr.heap[k]?
section

variable {S : List Nat} {wr w w' : World}

theorem Only.start (wr : World) : Only S wr wr.drew := ⟨rfl, rfl, rfl, Nat.le_refl _, fun _ _ _ => rfl⟩
theorem Only.refl (wr : World) : Only S wr wr := ⟨rfl, rfl, rfl, Nat.le_refl _, fun _ _ _ => rfl⟩
theorem Only.next (h : Only S wr w) (hb : Below w.heap.size w w') : Only S wr w' :=
  ⟨hb.os.trans h.os, hb.tape.trans h.tape, hb.output.trans h.output, Nat.le_trans h.size hb.size, fun k hk hS => (hb.block k (Nat.lt_of_lt_of_le hk h.size)).trans (h.block k hk hS)⟩
theorem Only.blk {b : Nat} {T : TypeId} {cs : Array Value} (h : Only S wr w) (hb : Blk wr b T cs) (hS : b ∉ S) : Blk w b T cs := (h.block b hb.lt hS).trans hb
theorem Only.below {B : Nat} (h : Only S wr w) (hB : B ≤ wr.heap.size) (hS : ∀ k ∈ S, B ≤ k) : Below B wr w :=
  ⟨h.os, h.tape, h.output, h.size, fun k hk => h.block k (Nat.lt_of_lt_of_le hk hB) (fun hm => by have := hS k hm; omega)⟩
theorem Only.below0 (h : Only [] wr w) : Below wr.heap.size wr w := h.below (Nat.le_refl _) (fun k hk => by cases hk)
end

/-- One block is put in the place of what it was. -/
structure Repl (w w' : World) (b : Nat) (T : TypeId) (cs : Array Value) : Prop where
  os : w'.os = w.os
  tape : w'.tape = w.tape
  output : w'.output = w.output
  size : w'.heap.size = w.heap.size
  here : Blk w' b T cs
  far : ∀ k, k ≠ b → w'.heap[k]? = w.heap[k]?
theorem Repl.set {w : World} {b : Nat} {T : TypeId} {cs : Array Value} (h : Blk w b T cs) (i : Nat) (v : Value) : Repl w (w.setCell ⟨b, i, none⟩ v) b T (cs.setIfInBounds i v) :=
  ⟨rfl, rfl, rfl, by simp [World.setCell], h.set_ i v, fun k hk => Below.heap_setCell w ⟨b, i, none⟩ v k hk⟩
theorem Repl.trans {w w' w'' : World} {b : Nat} {T : TypeId} {cs cs' : Array Value} (h : Repl w w' b T cs) (h' : Repl w' w'' b T cs') : Repl w w'' b T cs' :=
  ⟨h'.os.trans h.os, h'.tape.trans h.tape, h'.output.trans h.output, h'.size.trans h.size, h'.here, fun k hk => (h'.far k hk).trans (h.far k hk)⟩

/-- What is more about a letter: nothing; its blocks are such as nobody had ahead of it; making it may turn an old block. -/
inductive LTag where
  | plain
  | fresh
  | grow (b : Nat)
/-- What an operation is, for the walk. -/
inductive Kind where
  | val
  | call (v : Value)
  | store (b : Nat) (T : TypeId) (old : Array Value) (new : (Nat → Value) → Array Value)
  | alloc (s : Nat) (T : TypeId) (zero : Array Value) (new : (Nat → Value) → Array Value)
  | init (al : Nat)
  | letterB (tag : LTag) (p : Value → Prop) (F : Value → World → Prop)
  | smear (b : Nat)
abbrev Kind.letter (p : Value → Prop) (F : Value → World → Prop) : Kind := .letterB .plain p F
/-- A letter whose blocks are such as nobody had ahead of it. -/
abbrev Kind.fresh (p : Value → Prop) (F : Value → World → Prop) : Kind := .letterB .fresh p F
/-- A letter that is made of what an old block holds, and may turn it. -/
abbrev Kind.grow (b : Nat) (p : Value → Prop) (F : Value → World → Prop) : Kind := .letterB (.grow b) p F
def sliceBlk : Value → Option Nat
  | .slice (some ad) _ _ => some ad.block
  | _ => none
/-- The blocks of the slices that a value is, or holds. -/
def blksOf : Value → List Nat
  | .agg xs => xs.toList.filterMap sliceBlk
  | v => (sliceBlk v).toList
def FreshB (fr : LTag) (u : Value) (w w' : World) : Prop := fr = .fresh → ∀ b ∈ blksOf u, w.heap.size ≤ b ∧ b < w'.heap.size
def isFresh : Kind → Bool
  | .letterB .fresh _ _ => true
  | _ => false
abbrev Kinds := List (Nat × Kind)
def kindOf (ks : Kinds) (i : Nat) : Kind := (ks.lookup i).getD .val
def Kind.at_ : Kind → Option Nat
  | .store b _ _ _ => some b
  | .letterB (.grow b) _ _ => some b
  | .smear b => some b
  | _ => none
def stores (ks : Kinds) : List Nat := ks.filterMap fun x => x.2.at_
def Kind.boxed : Kind → Option TypeId
  | .alloc _ T _ _ => some T
  | _ => none
def boxes (ks : Kinds) : List TypeId := ks.filterMap fun x => x.2.boxed
/-- Blocks that have come since stay, but boxes. -/
structure Kept (ks : Kinds) (wr w w' : World) : Prop where
  size : w.heap.size ≤ w'.heap.size
  block : ∀ k, k < w.heap.size → wr.heap.size ≤ k → (∀ cs T fr, w.heap[k]? = some (.cells cs T fr) → T ∉ boxes ks) → w'.heap[k]? = w.heap[k]?
def okK (wr : World) (β : Nat → Value) (i : Nat) : Kind → Prop
  | .alloc _ _ _ _ => ∃ b, β i = .pointer (some ⟨b, 0, none⟩) ∧ wr.heap.size ≤ b
  | .letterB _ p _ => p (β i)
  | _ => True
def startK (wr : World) : Kind → Prop
  | .store b T old _ => Blk wr b T old
  | .letterB (.grow b) _ _ => b < wr.heap.size
  | .smear b => b < wr.heap.size
  | _ => True
def stabK (ks : Kinds) (wr : World) : Kind → Prop
  | .letterB (.grow b) _ F => ∀ v w w', Kept ks wr w w' → w'.heap[b]? = w.heap[b]? → F v w → F v w'
  | .letterB _ _ F => ∀ v w w', Kept ks wr w w' → F v w → F v w'
  | _ => True
theorem stab_use {ks : Kinds} {wr w w' : World} {f : LTag} {p : Value → Prop} {F : Value → World → Prop} {v : Value} (h : stabK ks wr (.letterB f p F)) (hk : Kept ks wr w w') (hb : ∀ b, f = .grow b → w'.heap[b]? = w.heap[b]?) (hF : F v w) : F v w' := by
  cases f with
  | grow b => exact h v w w' hk (hb b rfl) hF
  | _ => exact h v w w' hk hF
def endK (wr : World) (β : Nat → Value) (i : Nat) (w : World) : Kind → Prop
  | .store b T _ new => Blk w b T (new β)
  | .alloc _ T _ new => ∃ b, β i = .pointer (some ⟨b, 0, none⟩) ∧ wr.heap.size ≤ b ∧ Blk w b T (new β)
  | .letterB _ p F => p (β i) ∧ F (β i) w
  | _ => True
def apartK : Kind → Kind → Prop
  | .store b _ _ _, .store b' _ _ _ => b ≠ b'
  | .store b _ _ _, .letterB (.grow b') _ _ => b ≠ b'
  | .letterB (.grow b) _ _, .store b' _ _ _ => b ≠ b'
  | .letterB (.grow b) _ _, .letterB (.grow b') _ _ => b ≠ b'
  | .smear b, .store b' _ _ _ => b ≠ b'
  | .store b _ _ _, .smear b' => b ≠ b'
  | .smear b, .letterB (.grow b') _ _ => b ≠ b'
  | .letterB (.grow b) _ _, .smear b' => b ≠ b'
  | _, _ => True
def unlikeK (β : Nat → Value) (i j : Nat) : Kind → Kind → Prop
  | .alloc _ _ _ _, .alloc _ _ _ _ => β i ≠ β j
  | .letterB .fresh _ _, .letterB .fresh _ _ => ∀ b ∈ blksOf (β i), b ∉ blksOf (β j)
  | _, _ => True
/-- j waits for i, by a word of its own. -/
def dep (ops : Array Oper) (j i : Nat) : Bool := ((ops[j]?).map fun o => o.after.any fun e => Region.binds .any e && e.on == i).getD false
/-- Each box that is made has the store that fills it, that one waits for it, and fills no other. -/
def tiedK (ops : Array Oper) (ks : Kinds) : Bool := ks.all fun x => match x.2 with
  | .alloc s _ _ _ => (match kindOf ks s with
    | .init al => al == x.1
    | _ => false) && dep ops s x.1
  | .init al => (match kindOf ks al with
    | .alloc s _ _ _ => s == x.1
    | _ => false)
  | _ => true
/-- The order of the text is one that may be; operations that share a slot stand in one order; no slot is written twice. -/
def textOk (ops : Array Oper) : Bool :=
  (ops.all fun o => match o.op with | .select _ _ => false | _ => true) &&
  ((List.range ops.size).all fun j => match ops[j]? with | some o => o.after.all fun e => !Region.binds .any e || decide (e.on < j) | none => true) &&
  (List.range ops.size).all fun j => (List.range ops.size).all fun i =>
    if i < j then match ops[i]?, ops[j]? with
      | some x, some y => (x.apart ops y || dep ops j i) && (x.dst.isNone || x.dst != y.dst)
      | _, _ => true
     else true
def slotsOk (ops : Array Oper) (n : Nat) : Bool := ops.all fun o => match o.dst with | some d => decide (d < n) | none => true

theorem lookup_mem {ks : Kinds} {i : Nat} {k : Kind} (h : ks.lookup i = some k) : (i, k) ∈ ks := by
  induction ks with
  | nil => cases h
  | cons x ks ih =>
    obtain ⟨j, k'⟩ := x
    rw [List.lookup_cons] at h
    split at h
    · rename_i hij
      have : i = j := by simpa using hij
      injection h with h
      subst this h
      exact List.mem_cons_self
    · exact List.mem_cons_of_mem _ (ih h)
theorem kind_mem {ks : Kinds} {i : Nat} {k : Kind} (h : kindOf ks i = k) (hk : k ≠ .val) : (i, k) ∈ ks := by
  unfold kindOf at h
  cases hl : ks.lookup i with
  | none => rw [hl] at h; exact absurd h.symm hk
  | some k' =>
    rw [hl] at h
    have : k' = k := h
    subst this
    exact lookup_mem hl
theorem kind_tied {ops : Array Oper} {ks : Kinds} (ht : tiedK ops ks = true) {al s : Nat} {T : TypeId} {z : Array Value} {n : (Nat → Value) → Array Value} (h : kindOf ks al = .alloc s T z n) : kindOf ks s = .init al ∧ dep ops s al = true := by
  have hm := kind_mem h (by simp)
  unfold tiedK at ht
  have h1 := List.all_eq_true.1 ht _ hm
  simp only [Bool.and_eq_true] at h1
  obtain ⟨h1, h2⟩ := h1
  split at h1
  · rename_i al' he
    rw [he]
    simp at h1
    rw [h1]
    exact ⟨rfl, h2⟩
  · cases h1
theorem kind_tied2 {ops : Array Oper} {ks : Kinds} (ht : tiedK ops ks = true) {al s : Nat} (h : kindOf ks s = .init al) : ∃ T z n, kindOf ks al = .alloc s T z n := by
  have hm := kind_mem h (by simp)
  unfold tiedK at ht
  have h1 := List.all_eq_true.1 ht _ hm
  simp only at h1
  split at h1
  · rename_i s' T z n he
    simp at h1
    rw [he, h1]
    exact ⟨T, z, n, rfl⟩
  · cases h1
theorem pair_mem {α : Type} {R : α → α → Prop} (hsym : ∀ x y, R x y → R y x) {l : List α} (h : l.Pairwise R) {x y : α} (hx : x ∈ l) (hy : y ∈ l) (hne : x ≠ y) : R x y := by
  induction l with
  | nil => cases hx
  | cons a l ih =>
    rw [List.pairwise_cons] at h
    rcases List.mem_cons.1 hx with e | hx'
    · rcases List.mem_cons.1 hy with e' | hy'
      · exact absurd (e.trans e'.symm) hne
      · rw [e]; exact h.1 y hy'
    · rcases List.mem_cons.1 hy with e' | hy'
      · rw [e']; exact hsym _ _ (h.1 x hx')
      · exact ih h.2 hx' hy'
theorem apartK_symm (x y : Kind) (h : apartK x y) : apartK y x := by
  cases x with
  | store b T o n => cases y with
    | store b' T' o' n' => exact Ne.symm h
    | smear b' => exact Ne.symm h
    | letterB f p F => cases f <;> first | exact trivial | exact Ne.symm h
    | _ => exact trivial
  | smear b => cases y with
    | store b' T' o' n' => exact Ne.symm h
    | letterB f p F => cases f <;> first | exact trivial | exact Ne.symm h
    | _ => exact trivial
  | letterB g q G => cases y with
    | store b' T' o' n' => cases g <;> first | exact trivial | exact Ne.symm h
    | smear b' => cases g <;> first | exact trivial | exact Ne.symm h
    | letterB f p F => cases g <;> cases f <;> first | exact trivial | exact Ne.symm h
    | _ => cases g <;> exact trivial
  | _ => cases y with
    | letterB f p F => cases f <;> exact trivial
    | _ => exact trivial

/-- What an operation may turn that uses up what it grows: no box, no store, no letter is touched by it. -/
structure MildK (ks : Kinds) (ops : Array Oper) (i : Nat) (wr w w' : World) : Prop where
  only : Only (stores ks) wr w → Only (stores ks) wr w'
  st : ∀ j b T old new, kindOf ks j = .store b T old new → ∀ cs, Blk w b T cs → Blk w' b T cs
  al : ∀ j s T z n, kindOf ks j = .alloc s T z n → ∀ b cs, wr.heap.size ≤ b → Blk w b T cs → Blk w' b T cs
  lt : ∀ j {fr} p F, kindOf ks j = .letterB fr p F → j ≠ i → dep ops j i = false → ∀ v, F v w → F v w'
  size : w.heap.size ≤ w'.heap.size
  gr : ∀ j b p F, kindOf ks j = .letterB (.grow b) p F → j ≠ i → b < w.heap.size → w'.heap[b]? = w.heap[b]?
  sm : ∀ j b, kindOf ks j = .smear b → b < w.heap.size → w'.heap[b]? = w.heap[b]?
/-- The shape of a block: how many cells, of which type. -/
def shp : Option Obj → Option (Nat × TypeId × (Nat × Nat))
  | some (.cells cs T fz) => some (cs.size, T, fz)
  | _ => none
/-- Every operation that turns a block waits for this one. -/
def unsmeared (ks : Kinds) (ops : Array Oper) (b i : Nat) : Bool := ks.all fun x => match x.2 with
  | .smear b' => b' != b || dep ops x.1 i
  | _ => true
structure Facts (ks : Kinds) (ops : Array Oper) (wr : World) (β : Nat → Value) (i : Nat) (w : World) : Prop where
  only : Only (stores ks) wr w
  old : ∀ j b T old new, kindOf ks j = .store b T old new → dep ops j i = true → Blk w b T old
  got : ∀ j {fr} p F, kindOf ks j = .letterB fr p F → dep ops i j = true → F (β j) w
  ne : ∀ j k, isFresh (kindOf ks j) = true → isFresh (kindOf ks k) = true → j ≠ k → dep ops i j = true → dep ops i k = true → ∀ b ∈ blksOf (β j), b ∉ blksOf (β k)
  grew : ∀ j b p F, kindOf ks j = .letterB (.grow b) p F → (j = i ∨ dep ops j i = true) → w.heap[b]? = wr.heap[b]?
  still : ∀ j b, kindOf ks j = .smear b → unsmeared ks ops b i = true → w.heap[b]? = wr.heap[b]?
  shape : ∀ j b, kindOf ks j = .smear b → shp w.heap[b]? = shp wr.heap[b]?
theorem fresh_of {k : Kind} (h : isFresh k = true) : ∃ p F, k = .letterB .fresh p F := by
  cases k with
  | letterB fr p F => cases fr with
    | fresh => exact ⟨p, F, rfl⟩
    | _ => cases h
  | _ => cases h
/-- Letters that an operation waits for, all of them of memory that nobody had: no two share any. -/
theorem Facts.apart {ks : Kinds} {ops : Array Oper} {wr : World} {β : Nat → Value} {i : Nat} {w : World} (h : Facts ks ops wr β i w) (js : List Nat) (hn : js.Nodup) (hj : (js.all fun j => isFresh (kindOf ks j) && dep ops i j) = true) :
    ∀ (a c : Nat) (u v : Value), a ≠ c → (js.map β)[a]? = some u → (js.map β)[c]? = some v → ∀ b ∈ blksOf u, b ∉ blksOf v := by
  intro a c u v hne hu hv
  rw [List.getElem?_map, Option.map_eq_some_iff] at hu hv
  obtain ⟨j, ej, rfl⟩ := hu
  obtain ⟨k, ek, rfl⟩ := hv
  have g1 := List.all_eq_true.1 hj j (List.mem_of_getElem? ej)
  have g2 := List.all_eq_true.1 hj k (List.mem_of_getElem? ek)
  rw [Bool.and_eq_true] at g1 g2
  refine h.ne j k g1.1 g2.1 (fun e => hne ?_) g1.2 g2.2
  subst e
  exact (List.getElem?_inj (List.getElem?_eq_some_iff.1 ej).1 hn).1 (ej.trans ek.symm)
/-- What is shown of an operation, its kind being known. -/
def Yield (P : Program) (ks : Kinds) (ops : Array Oper) (wr : World) (β : Nat → Value) (i : Nat) (o : Oper) (a : Act) (v : Value) : Kind → Prop
  | .val => ∀ w, Facts ks ops wr β i w → (execOp a.eval o).run P w = .ok (.value v) w
  | .call u => v = u ∧ ∀ w, Facts ks ops wr β i w → ∃ f args, (execOp a.eval o).run P w = .ok (.enter f args) w ∧ Calls P f args w fun e w' => e = .returned u ∧ Below w.heap.size w w'
  | .store b T old new => v = undef ∧ ∀ w, Facts ks ops wr β i w → Blk w b T old → ∃ w', (execOp a.eval o).run P w = .ok .skip w' ∧ Repl w w' b T (new β)
  | .alloc _ T zero _ => v = β i ∧ ∀ w : World, (execOp a.eval o).run P w = .ok (.value (.pointer (some ⟨w.heap.size, 0, none⟩))) (w.alloc (.cells zero T))
  | .init al => v = undef ∧ ∀ s T zero new, kindOf ks al = .alloc s T zero new → ∀ b w, β al = .pointer (some ⟨b, 0, none⟩) → Facts ks ops wr β i w → Blk w b T zero → ∃ w', (execOp a.eval o).run P w = .ok .skip w' ∧ Repl w w' b T (new β)
  | .smear b => v = undef ∧ ∀ w, Facts ks ops wr β i w → ∃ w', (execOp a.eval o).run P w = .ok .skip w' ∧ w.grownBy w' (some b) ∧ shp w'.heap[b]? = shp w.heap[b]?
  | .letterB fr p F => v = β i ∧ ∀ w, Facts ks ops wr β i w → (∃ f args, (execOp a.eval o).run P w = .ok (.enter f args) w ∧ Calls P f args w fun e w' => ∃ u, e = .returned u ∧ p u ∧ F u w' ∧ Below w.heap.size w w' ∧ FreshB fr u w w') ∨ (∃ u w', (execOp a.eval o).run P w = .ok (.value u) w' ∧ p u ∧ F u w' ∧ (Below w.heap.size w w' ∨ MildK ks ops i wr w w' ∨ ∃ b, fr = .grow b ∧ w.grownBy w' (some b)) ∧ FreshB fr u w w')
/-- THE WALK. -/
def Lex (P : Program) (ks : Kinds) (ops : Array Oper) (wr : World) (β : Nat → Value) (Fin : Act → Prop) : Nat → List Oper → Act → Prop
  | _, [], a => Fin a
  | i, o :: rest, a => (Region.wanted o (yielded ops a.tmps) = true ∧ ∃ v, Yield P ks ops wr β i o a v (kindOf ks i) ∧ Lex P ks ops wr β Fin (i + 1) rest (a.put o.dst v)) ∨
    (Region.wanted o (yielded ops a.tmps) = false ∧ kindOf ks i = .val ∧ Lex P ks ops wr β Fin (i + 1) rest (a.put o.dst undef))
/-- The frame ahead of operation k. -/
def fr (ops : Array Oper) (a : Act) (vs : Nat → Value) : Nat → Act
  | 0 => a
  | k + 1 => (fr ops a vs k).put ((ops[k]?).bind (·.dst)) (vs k)
theorem fr_succ (ops : Array Oper) (a : Act) (vs : Nat → Value) (k : Nat) : fr ops a vs (k + 1) = (fr ops a vs k).put ((ops[k]?).bind (·.dst)) (vs k) := rfl
theorem fr_congr {ops : Array Oper} {a : Act} {vs vs' : Nat → Value} : ∀ k, (∀ j, j < k → vs j = vs' j) → fr ops a vs k = fr ops a vs' k
  | 0, _ => rfl
  | k + 1, h => by
    unfold fr
    rw [fr_congr k (fun j hj => h j (by omega)), h k (by omega)]
theorem put_size (a : Act) (d : Option Nat) (v : Value) : (a.put d v).tmps.size = a.tmps.size := by cases d <;> simp [Act.put]
theorem put_defers (a : Act) (d : Option Nat) (v : Value) : (a.put d v).defers = a.defers := by cases d <;> simp [Act.put]
theorem put_other (a : Act) (d : Option Nat) (v : Value) (t : Nat) (h : d ≠ some t) : (a.put d v).tmps[t]? = a.tmps[t]? := by
  cases d with
  | none => rfl
  | some d => exact put_far a d t v (fun e => h (by rw [e]))
theorem fr_size {ops : Array Oper} {a : Act} {vs : Nat → Value} : ∀ k, (fr ops a vs k).tmps.size = a.tmps.size
  | 0 => rfl
  | k + 1 => by unfold fr; rw [put_size, fr_size k]
theorem fr_defers {ops : Array Oper} {a : Act} {vs : Nat → Value} : ∀ k, (fr ops a vs k).defers = a.defers
  | 0 => rfl
  | k + 1 => by unfold fr; rw [put_defers, fr_defers k]
theorem fr_none {ops : Array Oper} {a : Act} {vs : Nat → Value} (t : Nat) : ∀ k, (∀ j o, j < k → ops[j]? = some o → o.dst ≠ some t) → (fr ops a vs k).tmps[t]? = a.tmps[t]?
  | 0, _ => rfl
  | k + 1, h => by
    unfold fr
    rw [put_other, fr_none t k (fun j o hj ho => h j o (by omega) ho)]
    intro e
    cases ho : ops[k]? with
    | none => rw [ho] at e; cases e
    | some o => rw [ho] at e; exact h k o (by omega) ho e
theorem fr_some {ops : Array Oper} {a : Act} {vs : Nat → Value} (hone : ∀ (i j : Nat) (x y : Oper) (t : Nat), i < j → ops[i]? = some x → ops[j]? = some y → x.dst = some t → y.dst ≠ some t) {t : Nat} (ht : t < a.tmps.size) : ∀ k j o, j < k → ops[j]? = some o → o.dst = some t → (fr ops a vs k).tmps[t]? = some (vs j)
  | 0, _, _, h, _, _ => by omega
  | k + 1, j, o, hj, ho, hd => by
    unfold fr
    by_cases e : j = k
    · subst e
      rw [ho]
      show ((fr ops a vs j).put o.dst (vs j)).tmps[t]? = _
      rw [hd]
      exact put_here _ _ _ (by rw [fr_size]; exact ht)
    · have hjk : j < k := by omega
      rw [put_other, fr_some hone ht k j o hjk ho hd]
      intro e'
      cases hk : ops[k]? with
      | none => rw [hk] at e'; cases e'
      | some y => rw [hk] at e'; exact hone j k o y t hjk ho hk hd e'
theorem lex_run {P : Program} {ks : Kinds} {ops : Array Oper} {wr : World} {β : Nat → Value} {Fin : Act → Prop} {a0 : Act} : ∀ (l : List Oper) (i : Nat) (vs0 : Nat → Value), (∀ j, l[j]? = ops[i + j]?) → Lex P ks ops wr β Fin i l (fr ops a0 vs0 i) →
    ∃ vs : Nat → Value, (∀ j, j < i → vs j = vs0 j) ∧ (∀ k o, i ≤ k → ops[k]? = some o →
      (Region.wanted o (yielded ops (fr ops a0 vs k).tmps) = true ∧ Yield P ks ops wr β k o (fr ops a0 vs k) (vs k) (kindOf ks k)) ∨
      (Region.wanted o (yielded ops (fr ops a0 vs k).tmps) = false ∧ kindOf ks k = .val ∧ vs k = undef)) ∧ Fin (fr ops a0 vs (i + l.length))
  | [], i, vs0, hl, h => ⟨vs0, fun _ _ => rfl, fun k o hk ho => by
      have := hl (k - i)
      rw [show i + (k - i) = k from by omega, ho] at this
      simp at this, by simpa [Lex] using h⟩
  | o :: l, i, vs0, hl, h => by
    have h0 : ops[i]? = some o := by simpa using (hl 0).symm
    have hl' : ∀ j, l[j]? = ops[i + 1 + j]? := fun j => by have := hl (j + 1); simpa [Nat.add_assoc, Nat.add_comm 1 j] using this
    have key : ∀ v, Lex P ks ops wr β Fin (i + 1) l ((fr ops a0 vs0 i).put o.dst v) → ∃ vs : Nat → Value, (∀ j, j < i → vs j = vs0 j) ∧ vs i = v ∧ (∀ k o, i + 1 ≤ k → ops[k]? = some o →
      (Region.wanted o (yielded ops (fr ops a0 vs k).tmps) = true ∧ Yield P ks ops wr β k o (fr ops a0 vs k) (vs k) (kindOf ks k)) ∨
      (Region.wanted o (yielded ops (fr ops a0 vs k).tmps) = false ∧ kindOf ks k = .val ∧ vs k = undef)) ∧ Fin (fr ops a0 vs (i + 1 + l.length)) := by
      intro v hv
      have e1 : (fr ops a0 vs0 i).put o.dst v = fr ops a0 (fun j => if j = i then v else vs0 j) (i + 1) := by
        rw [fr_succ, h0, fr_congr i (vs := fun j => if j = i then v else vs0 j) (vs' := vs0) (fun j hj => if_neg (by omega))]
        simp
      rw [e1] at hv
      obtain ⟨vs, g1, g2, g3⟩ := lex_run l (i + 1) _ hl' hv
      refine ⟨vs, fun j hj => ?_, ?_, g2, g3⟩
      · rw [g1 j (by omega), if_neg (by omega)]
      · rw [g1 i (by omega), if_pos rfl]
    have lenE : i + (o :: l).length = i + 1 + l.length := by simp; omega
    rw [lenE]
    rcases h with ⟨hw, v, hy, hr⟩ | ⟨hw, hk, hr⟩
    · obtain ⟨vs, g1, g2, g3, g4⟩ := key v hr
      have ef : fr ops a0 vs i = fr ops a0 vs0 i := fr_congr i g1
      refine ⟨vs, g1, fun k o' hk ho' => ?_, g4⟩
      by_cases e : k = i
      · subst e
        rw [h0] at ho'
        injection ho' with ho'
        subst ho'
        left
        rw [ef, g2]
        exact ⟨hw, hy⟩
      · exact g3 k o' (by omega) ho'
    · obtain ⟨vs, g1, g2, g3, g4⟩ := key undef hr
      have ef : fr ops a0 vs i = fr ops a0 vs0 i := fr_congr i g1
      refine ⟨vs, g1, fun k o' hk' ho' => ?_, g4⟩
      by_cases e : k = i
      · subst e
        rw [h0] at ho'
        injection ho' with ho'
        subst ho'
        right
        rw [ef]
        exact ⟨hw, hk, g2⟩
      · exact g3 k o' (by omega) ho'
end Go.Proofs.YtegcebdnofnigaaDoor

/-
  A region that draws its order, by one fact for each of its operations: whatever the order, in the end all of them hold. (No statement of the seat is named here.)
  A region that draws its order, walked once in the order of the text: its operations read, call, make boxes, store. What a call hands back, and where a box lies, are letters where they hang on the order. (No statement of the seat is named here.)
  A region that draws its order, walked once in the order of the text: the rule.
  A region that draws its order, walked once in the order of the text: the theorem.
  A region that draws its order, walked once in the order of the text: whatever the order.
  A region that draws its order, walked once in the order of the text: its steps.
-/
import Derived.Test.YtfnamfkjbkhgeaaGreatDoorGen
import Derived.RegionTactic
import Derived.Deep.Quiet
namespace Go.Proofs.YtfnamfkjbkhgeaaGreatDoor

open Go

theorem count_set (l : List Bool) (i : Nat) (h : l[i]? = some false) : (l.set i true).count false + 1 = l.count false := by
  induction l generalizing i with
  | nil => simp at h
  | cons b l ih =>
    cases i with
    | zero =>
      simp at h
      subst h
      simp
    | succ i =>
      have h2 := ih i (by simpa using h)
      rw [List.set_cons_succ, List.count_cons, List.count_cons]
      omega
section

variable {P : Program} {ops : Array Oper} {Q : Exit → Act → World → Prop} {md : Region.Mode}

theorem ready_mem {listed : Array Bool} {i : Nat} (h : i ∈ Region.ready md ops listed) :
    ∃ o, ops[i]? = some o ∧ listed.getD i true = false ∧ ∀ e ∈ o.after, Region.binds md e = true → listed.getD e.on false = true := by
  unfold Region.ready at h
  rw [List.mem_filter, List.mem_range, Bool.and_eq_true] at h
  obtain ⟨hi, h1, h2⟩ := h
  refine ⟨ops[i], Array.getElem?_eq_getElem hi, by simpa using h1, fun e he hb => ?_⟩
  rw [Array.getElem?_eq_getElem hi] at h2
  simp only [Option.map_some, Option.getD_some, Array.all_eq_true'] at h2
  have h3 := h2 e he
  rw [hb] at h3
  simpa using h3
theorem ready_of {listed : Array Bool} {i : Nat} {o : Oper} (hi : ops[i]? = some o) (h1 : listed.getD i true = false) (h2 : ∀ e ∈ o.after, Region.binds md e = true → listed.getD e.on false = true) : i ∈ Region.ready md ops listed := by
  unfold Region.ready
  rw [List.mem_filter, List.mem_range, Bool.and_eq_true]
  refine ⟨(Array.getElem?_eq_some_iff.1 hi).1, by rw [h1]; rfl, ?_⟩
  rw [hi]
  simp only [Option.map_some, Option.getD_some, Array.all_eq_true']
  intro e he
  cases hb : Region.binds md e
  · rfl
  · rw [h2 e he hb]; rfl
theorem ready_nil (hacy : ∀ i o, ops[i]? = some o → ∀ e ∈ o.after, Region.binds md e = true → e.on < i) {listed : Array Bool} (hs : listed.size = ops.size) (h : Region.ready md ops listed = []) : ∀ i, i < ops.size → listed.getD i false = true := by
  intro i
  induction i using Nat.strongRecOn with
  | ind i ih =>
    intro hi
    have hli : i < listed.size := by omega
    cases hb : listed.getD i false
    · exfalso
      have h1 : listed.getD i true = false := by
        simp only [Array.getD, hli, dif_pos] at hb ⊢
        exact hb
      have h2 := ready_of (md := md) (Array.getElem?_eq_getElem hi) h1 (fun e he hbd => by
        have hlt := hacy i _ (Array.getElem?_eq_getElem hi) e he hbd
        exact ih e.on hlt (by omega))
      rw [h] at h2
      cases h2
    · rfl
/-- THE RULE. G: what holds all the while; R i: what operation i has brought about. -/
theorem wpAny_each (G : Act → World → Prop) (R : Nat → Act → World → Prop)
    (hacy : ∀ i o, ops[i]? = some o → ∀ e ∈ o.after, Region.binds md e = true → e.on < i)
    (hstep : ∀ i o, ops[i]? = some o → ∀ a w, G a w → (∀ e ∈ o.after, Region.binds md e = true → R e.on a w) → wpOp P ops Q i (fun a' w' => G a' w' ∧ R i a' w' ∧ ∀ j, j ≠ i → R j a w → R j a' w') a w)
    (hend : ∀ a w, G a w → (∀ i, i < ops.size → R i a w) → Q .normal a w) :
    ∀ (fuel : Nat) (listed : Array Bool) (a : Act) (w : World), listed.size = ops.size → listed.toList.count false ≤ fuel → G a w → (∀ i, listed.getD i false = true → R i a w) → wpAny P md ops Q fuel listed a w := by
  intro fuel
  induction fuel with
  | zero =>
    intro listed a w hs hc hG hR
    have hn : Region.ready md ops listed = [] := by
      apply List.eq_nil_iff_forall_not_mem.2
      intro i hi
      obtain ⟨o, ho, h1, _⟩ := ready_mem hi
      have hli : i < listed.size := by rw [hs]; exact (Array.getElem?_eq_some_iff.1 ho).1
      have h2 : listed.toList[i]? = some false := by
        simp only [Array.getD, hli, dif_pos] at h1
        rw [Array.getElem?_toList, Array.getElem?_eq_getElem hli]
        exact congrArg some h1
      have := count_set _ _ h2
      omega
    exact ⟨hn, hend a w hG fun i hi => hR i (ready_nil hacy hs hn i hi)⟩
  | succ fuel ih =>
    intro listed a w hs hc hG hR
    refine ⟨fun hn => hend a w hG fun i hi => hR i (ready_nil hacy hs hn i hi), fun i hi => ?_⟩
    obtain ⟨o, ho, h1, h3⟩ := ready_mem hi
    have hli : i < listed.size := by rw [hs]; exact (Array.getElem?_eq_some_iff.1 ho).1
    have h2 : listed.toList[i]? = some false := by
      simp only [Array.getD, hli, dif_pos] at h1
      rw [Array.getElem?_toList, Array.getElem?_eq_getElem hli]
      exact congrArg some h1
    refine wpOp_mono (fun a' w' hk => ?_) (hstep i o ho a w hG fun e he hb => hR e.on (h3 e he hb))
    obtain ⟨hG', hRi, hRj⟩ := hk
    refine ih _ a' w' (by simpa using hs) ?_ hG' ?_
    · have := count_set _ _ h2
      rw [Array.toList_setIfInBounds]
      omega
    · intro j hj
      by_cases e : j = i
      · subst e; exact hRi
      · refine hRj j e (hR j ?_)
        rw [← hj]
        by_cases hl : j < listed.size
        · simp only [Array.getD, Array.size_setIfInBounds, hl, dif_pos]
          change listed[j] = (listed.setIfInBounds i true)[j]'(by simpa using hl)
          rw [Array.getElem_setIfInBounds]
          rw [if_neg (Ne.symm e)]
        · simp [Array.getD, hl]
theorem wp_region_each {id : Nat} {a : Act} {w : World} (hm : P.follows .mixedOrders = true) (G : Act → World → Prop) (R : Nat → Act → World → Prop)
    (hacy : ∀ i o, ops[i]? = some o → ∀ e ∈ o.after, Region.binds .any e = true → e.on < i)
    (hstep : ∀ i o, ops[i]? = some o → ∀ a w, G a w → (∀ e ∈ o.after, Region.binds .any e = true → R e.on a w) → wpOp P ops Q i (fun a' w' => G a' w' ∧ R i a' w' ∧ ∀ j, j ≠ i → R j a w → R j a' w') a w)
    (hend : ∀ a w, G a w → (∀ i, i < ops.size → R i a w) → Q .normal a w) (h0 : G a w.drew) : (Code.region id ops true).wp P Q a w :=
  wp_region_any hm (wpAny_each G R hacy hstep hend ops.size _ a _ (by simp) (by simp) h0 (fun i hi => by simp [Array.getD] at hi))
/-! Steps: an operation that yields a value, one that yields none, a call. -/
theorem each_value {i : Nat} {o : Oper} {a : Act} {w w' : World} {v : Value} {K : Act → World → Prop} (ho : ops[i]? = some o) (hg : o.guard = none) (hrun : (execOp a.eval o).run P w = .ok (.value v) w') (hK : K (a.put o.dst v) w') : wpOp P ops Q i K a w := by
  unfold wpOp
  rw [ho]
  have hw : Region.wanted o (yielded ops a.tmps) = true := by simp [Region.wanted, hg]
  simp only [hw, if_true]
  left
  unfold Oper.wp
  rw [hrun]
  exact hK
theorem each_skip {i : Nat} {o : Oper} {a : Act} {w w' : World} {K : Act → World → Prop} (ho : ops[i]? = some o) (hg : o.guard = none) (hrun : (execOp a.eval o).run P w = .ok .skip w') (hK : K (a.put o.dst undef) w') : wpOp P ops Q i K a w := by
  unfold wpOp
  rw [ho]
  have hw : Region.wanted o (yielded ops a.tmps) = true := by simp [Region.wanted, hg]
  simp only [hw, if_true]
  left
  unfold Oper.wp
  rw [hrun]
  exact hK
theorem each_call {i : Nat} {o : Oper} {a : Act} {w w' : World} {f : FuncId} {args : Array Value} {K : Act → World → Prop} (ho : ops[i]? = some o) (hg : o.guard = none) (hrun : (execOp a.eval o).run P w = .ok (.enter f args) w') (hK : Calls P f args w' fun e w'' => ∃ v, e = .returned v ∧ K (a.put o.dst v) w'') : wpOp P ops Q i K a w := by
  unfold wpOp
  rw [ho]
  have hw : Region.wanted o (yielded ops a.tmps) = true := by simp [Region.wanted, hg]
  simp only [hw, if_true]
  left
  unfold Oper.wp
  rw [hrun]
  refine Calls.mono hK (fun e w'' he => ?_)
  obtain ⟨v, rfl, hk⟩ := he
  exact hk
end

/-- A slot, read behind a put. -/
theorem put_far (a : Act) (t t' : Nat) (v : Value) (h : t ≠ t') : (a.put (some t) v).tmps[t']? = a.tmps[t']? := by
  simp [Act.put, h]
theorem put_here (a : Act) (t : Nat) (v : Value) (h : t < a.tmps.size) : (a.put (some t) v).tmps[t]? = some v := by
  simp [Act.put, h]
end Go.Proofs.YtfnamfkjbkhgeaaGreatDoor

namespace Go.Proofs.YtfnamfkjbkhgeaaGreatDoor

open Go Go.RowKit

/-- The later world is as the earlier one was, but for the blocks S; more may have come. -/
structure Only (S : List Nat) (wr w : World) : Prop where
  os : w.os = wr.os
  tape : w.tape = wr.tape
  output : w.output = wr.output
  size : wr.heap.size ≤ w.heap.size
  block : ∀ k, k < wr.heap.size → k ∉ S → w.heap[k]? = wr.heap[k]?
section

variable {S : List Nat} {wr w w' : World}

theorem Only.start (wr : World) : Only S wr wr.drew := ⟨rfl, rfl, rfl, Nat.le_refl _, fun _ _ _ => rfl⟩
theorem Only.refl (wr : World) : Only S wr wr := ⟨rfl, rfl, rfl, Nat.le_refl _, fun _ _ _ => rfl⟩
theorem Only.next (h : Only S wr w) (hb : Below w.heap.size w w') : Only S wr w' :=
  ⟨hb.os.trans h.os, hb.tape.trans h.tape, hb.output.trans h.output, Nat.le_trans h.size hb.size, fun k hk hS => (hb.block k (Nat.lt_of_lt_of_le hk h.size)).trans (h.block k hk hS)⟩
theorem Only.blk {b : Nat} {T : TypeId} {cs : Array Value} (h : Only S wr w) (hb : Blk wr b T cs) (hS : b ∉ S) : Blk w b T cs := (h.block b hb.lt hS).trans hb
theorem Only.below {B : Nat} (h : Only S wr w) (hB : B ≤ wr.heap.size) (hS : ∀ k ∈ S, B ≤ k) : Below B wr w :=
  ⟨h.os, h.tape, h.output, h.size, fun k hk => h.block k (Nat.lt_of_lt_of_le hk hB) (fun hm => by have := hS k hm; omega)⟩
theorem Only.below0 (h : Only [] wr w) : Below wr.heap.size wr w := h.below (Nat.le_refl _) (fun k hk => by cases hk)
end

/-- One block is put in the place of what it was. -/
structure Repl (w w' : World) (b : Nat) (T : TypeId) (cs : Array Value) : Prop where
  os : w'.os = w.os
  tape : w'.tape = w.tape
  output : w'.output = w.output
  size : w'.heap.size = w.heap.size
  here : Blk w' b T cs
  far : ∀ k, k ≠ b → w'.heap[k]? = w.heap[k]?
theorem Repl.set {w : World} {b : Nat} {T : TypeId} {cs : Array Value} (h : Blk w b T cs) (i : Nat) (v : Value) : Repl w (w.setCell ⟨b, i, none⟩ v) b T (cs.setIfInBounds i v) :=
  ⟨rfl, rfl, rfl, by simp [World.setCell], h.set_ i v, fun k hk => Below.heap_setCell w ⟨b, i, none⟩ v k hk⟩
theorem Repl.trans {w w' w'' : World} {b : Nat} {T : TypeId} {cs cs' : Array Value} (h : Repl w w' b T cs) (h' : Repl w' w'' b T cs') : Repl w w'' b T cs' :=
  ⟨h'.os.trans h.os, h'.tape.trans h.tape, h'.output.trans h.output, h'.size.trans h.size, h'.here, fun k hk => (h'.far k hk).trans (h.far k hk)⟩

/-- What is more about a letter: nothing; its blocks are such as nobody had ahead of it; making it may turn an old block. -/
inductive LTag where
  | plain
  | fresh
  | grow (b : Nat)
/-- What an operation is, for the walk. -/
inductive Kind where
  | val
  | call (v : Value)
  | store (b : Nat) (T : TypeId) (old : Array Value) (new : (Nat → Value) → Array Value)
  | alloc (s : Nat) (T : TypeId) (zero : Array Value) (new : (Nat → Value) → Array Value)
  | init (al : Nat)
  | letterB (tag : LTag) (p : Value → Prop) (F : Value → World → Prop)
  | smear (b : Nat)
abbrev Kind.letter (p : Value → Prop) (F : Value → World → Prop) : Kind := .letterB .plain p F
/-- A letter whose blocks are such as nobody had ahead of it. -/
abbrev Kind.fresh (p : Value → Prop) (F : Value → World → Prop) : Kind := .letterB .fresh p F
/-- A letter that is made of what an old block holds, and may turn it. -/
abbrev Kind.grow (b : Nat) (p : Value → Prop) (F : Value → World → Prop) : Kind := .letterB (.grow b) p F
def sliceBlk : Value → Option Nat
  | .slice (some ad) _ _ => some ad.block
  | _ => none
/-- The blocks of the slices that a value is, or holds. -/
def blksOf : Value → List Nat
  | .agg xs => xs.toList.filterMap sliceBlk
  | v => (sliceBlk v).toList
def FreshB (fr : LTag) (u : Value) (w w' : World) : Prop := fr = .fresh → ∀ b ∈ blksOf u, w.heap.size ≤ b ∧ b < w'.heap.size
def isFresh : Kind → Bool
  | .letterB .fresh _ _ => true
  | _ => false
abbrev Kinds := List (Nat × Kind)
def kindOf (ks : Kinds) (i : Nat) : Kind := (ks.lookup i).getD .val
def Kind.at_ : Kind → Option Nat
  | .store b _ _ _ => some b
  | .letterB (.grow b) _ _ => some b
  | .smear b => some b
  | _ => none
def stores (ks : Kinds) : List Nat := ks.filterMap fun x => x.2.at_
def Kind.boxed : Kind → Option TypeId
  | .alloc _ T _ _ => some T
  | _ => none
def boxes (ks : Kinds) : List TypeId := ks.filterMap fun x => x.2.boxed
/-- Blocks that have come since stay, but boxes. -/
structure Kept (ks : Kinds) (wr w w' : World) : Prop where
  size : w.heap.size ≤ w'.heap.size
  block : ∀ k, k < w.heap.size → wr.heap.size ≤ k → (∀ cs T fr, w.heap[k]? = some (.cells cs T fr) → T ∉ boxes ks) → w'.heap[k]? = w.heap[k]?
def okK (wr : World) (β : Nat → Value) (i : Nat) : Kind → Prop
  | .alloc _ _ _ _ => ∃ b, β i = .pointer (some ⟨b, 0, none⟩) ∧ wr.heap.size ≤ b
  | .letterB _ p _ => p (β i)
  | _ => True
def startK (wr : World) : Kind → Prop
  | .store b T old _ => Blk wr b T old
  | .letterB (.grow b) _ _ => b < wr.heap.size
  | .smear b => b < wr.heap.size
  | _ => True
def stabK (ks : Kinds) (wr : World) : Kind → Prop
  | .letterB (.grow b) _ F => ∀ v w w', Kept ks wr w w' → w'.heap[b]? = w.heap[b]? → F v w → F v w'
  | .letterB _ _ F => ∀ v w w', Kept ks wr w w' → F v w → F v w'
  | _ => True
theorem stab_use {ks : Kinds} {wr w w' : World} {f : LTag} {p : Value → Prop} {F : Value → World → Prop} {v : Value} (h : stabK ks wr (.letterB f p F)) (hk : Kept ks wr w w') (hb : ∀ b, f = .grow b → w'.heap[b]? = w.heap[b]?) (hF : F v w) : F v w' := by
  cases f with
  | grow b => exact h v w w' hk (hb b rfl) hF
  | _ => exact h v w w' hk hF
def endK (wr : World) (β : Nat → Value) (i : Nat) (w : World) : Kind → Prop
  | .store b T _ new => Blk w b T (new β)
  | .alloc _ T _ new => ∃ b, β i = .pointer (some ⟨b, 0, none⟩) ∧ wr.heap.size ≤ b ∧ Blk w b T (new β)
  | .letterB _ p F => p (β i) ∧ F (β i) w
  | _ => True
def apartK : Kind → Kind → Prop
  | .store b _ _ _, .store b' _ _ _ => b ≠ b'
  | .store b _ _ _, .letterB (.grow b') _ _ => b ≠ b'
  | .letterB (.grow b) _ _, .store b' _ _ _ => b ≠ b'
  | .letterB (.grow b) _ _, .letterB (.grow b') _ _ => b ≠ b'
  | .smear b, .store b' _ _ _ => b ≠ b'
  | .store b _ _ _, .smear b' => b ≠ b'
  | .smear b, .letterB (.grow b') _ _ => b ≠ b'
  | .letterB (.grow b) _ _, .smear b' => b ≠ b'
  | _, _ => True
def unlikeK (β : Nat → Value) (i j : Nat) : Kind → Kind → Prop
  | .alloc _ _ _ _, .alloc _ _ _ _ => β i ≠ β j
  | .letterB .fresh _ _, .letterB .fresh _ _ => ∀ b ∈ blksOf (β i), b ∉ blksOf (β j)
  | _, _ => True
/-- j waits for i, by a word of its own. -/
def dep (ops : Array Oper) (j i : Nat) : Bool := ((ops[j]?).map fun o => o.after.any fun e => Region.binds .any e && e.on == i).getD false
/-- Each box that is made has the store that fills it, that one waits for it, and fills no other. -/
def tiedK (ops : Array Oper) (ks : Kinds) : Bool := ks.all fun x => match x.2 with
  | .alloc s _ _ _ => (match kindOf ks s with
    | .init al => al == x.1
    | _ => false) && dep ops s x.1
  | .init al => (match kindOf ks al with
    | .alloc s _ _ _ => s == x.1
    | _ => false)
  | _ => true
/-- The order of the text is one that may be; operations that share a slot stand in one order; no slot is written twice. -/
def textOk (ops : Array Oper) : Bool :=
  (ops.all fun o => match o.op with | .select _ _ => false | _ => true) &&
  ((List.range ops.size).all fun j => match ops[j]? with | some o => o.after.all fun e => !Region.binds .any e || decide (e.on < j) | none => true) &&
  (List.range ops.size).all fun j => (List.range ops.size).all fun i =>
    if i < j then match ops[i]?, ops[j]? with
      | some x, some y => (x.apart ops y || dep ops j i) && (x.dst.isNone || x.dst != y.dst)
      | _, _ => true
     else true
def slotsOk (ops : Array Oper) (n : Nat) : Bool := ops.all fun o => match o.dst with | some d => decide (d < n) | none => true

theorem lookup_mem {ks : Kinds} {i : Nat} {k : Kind} (h : ks.lookup i = some k) : (i, k) ∈ ks := by
  induction ks with
  | nil => cases h
  | cons x ks ih =>
    obtain ⟨j, k'⟩ := x
    rw [List.lookup_cons] at h
    split at h
    · rename_i hij
      have : i = j := by simpa using hij
      injection h with h
      subst this h
      exact List.mem_cons_self
    · exact List.mem_cons_of_mem _ (ih h)
theorem kind_mem {ks : Kinds} {i : Nat} {k : Kind} (h : kindOf ks i = k) (hk : k ≠ .val) : (i, k) ∈ ks := by
  unfold kindOf at h
  cases hl : ks.lookup i with
  | none => rw [hl] at h; exact absurd h.symm hk
  | some k' =>
    rw [hl] at h
    have : k' = k := h
    subst this
    exact lookup_mem hl
theorem kind_tied {ops : Array Oper} {ks : Kinds} (ht : tiedK ops ks = true) {al s : Nat} {T : TypeId} {z : Array Value} {n : (Nat → Value) → Array Value} (h : kindOf ks al = .alloc s T z n) : kindOf ks s = .init al ∧ dep ops s al = true := by
  have hm := kind_mem h (by simp)
  unfold tiedK at ht
  have h1 := List.all_eq_true.1 ht _ hm
  simp only [Bool.and_eq_true] at h1
  obtain ⟨h1, h2⟩ := h1
  split at h1
  · rename_i al' he
    rw [he]
    simp at h1
    rw [h1]
    exact ⟨rfl, h2⟩
  · cases h1
theorem kind_tied2 {ops : Array Oper} {ks : Kinds} (ht : tiedK ops ks = true) {al s : Nat} (h : kindOf ks s = .init al) : ∃ T z n, kindOf ks al = .alloc s T z n := by
  have hm := kind_mem h (by simp)
  unfold tiedK at ht
  have h1 := List.all_eq_true.1 ht _ hm
  simp only at h1
  split at h1
  · rename_i s' T z n he
    simp at h1
    rw [he, h1]
    exact ⟨T, z, n, rfl⟩
  · cases h1
theorem pair_mem {α : Type} {R : α → α → Prop} (hsym : ∀ x y, R x y → R y x) {l : List α} (h : l.Pairwise R) {x y : α} (hx : x ∈ l) (hy : y ∈ l) (hne : x ≠ y) : R x y := by
  induction l with
  | nil => cases hx
  | cons a l ih =>
    rw [List.pairwise_cons] at h
    rcases List.mem_cons.1 hx with e | hx'
    · rcases List.mem_cons.1 hy with e' | hy'
      · exact absurd (e.trans e'.symm) hne
      · rw [e]; exact h.1 y hy'
    · rcases List.mem_cons.1 hy with e' | hy'
      · rw [e']; exact hsym _ _ (h.1 x hx')
      · exact ih h.2 hx' hy'
theorem apartK_symm (x y : Kind) (h : apartK x y) : apartK y x := by
  cases x with
  | store b T o n => cases y with
    | store b' T' o' n' => exact Ne.symm h
    | smear b' => exact Ne.symm h
    | letterB f p F => cases f <;> first | exact trivial | exact Ne.symm h
    | _ => exact trivial
  | smear b => cases y with
    | store b' T' o' n' => exact Ne.symm h
    | letterB f p F => cases f <;> first | exact trivial | exact Ne.symm h
    | _ => exact trivial
  | letterB g q G => cases y with
    | store b' T' o' n' => cases g <;> first | exact trivial | exact Ne.symm h
    | smear b' => cases g <;> first | exact trivial | exact Ne.symm h
    | letterB f p F => cases g <;> cases f <;> first | exact trivial | exact Ne.symm h
    | _ => cases g <;> exact trivial
  | _ => cases y with
    | letterB f p F => cases f <;> exact trivial
    | _ => exact trivial

/-- What an operation may turn that uses up what it grows: no box, no store, no letter is touched by it. -/
structure MildK (ks : Kinds) (ops : Array Oper) (i : Nat) (wr w w' : World) : Prop where
  only : Only (stores ks) wr w → Only (stores ks) wr w'
  st : ∀ j b T old new, kindOf ks j = .store b T old new → ∀ cs, Blk w b T cs → Blk w' b T cs
  al : ∀ j s T z n, kindOf ks j = .alloc s T z n → ∀ b cs, wr.heap.size ≤ b → Blk w b T cs → Blk w' b T cs
  lt : ∀ j {fr} p F, kindOf ks j = .letterB fr p F → j ≠ i → dep ops j i = false → ∀ v, F v w → F v w'
  size : w.heap.size ≤ w'.heap.size
  gr : ∀ j b p F, kindOf ks j = .letterB (.grow b) p F → j ≠ i → b < w.heap.size → w'.heap[b]? = w.heap[b]?
  sm : ∀ j b, kindOf ks j = .smear b → b < w.heap.size → w'.heap[b]? = w.heap[b]?
/-- The shape of a block: how many cells, of which type. -/
def shp : Option Obj → Option (Nat × TypeId × (Nat × Nat))
  | some (.cells cs T fz) => some (cs.size, T, fz)
  | _ => none
/-- Every operation that turns a block waits for this one. -/
def unsmeared (ks : Kinds) (ops : Array Oper) (b i : Nat) : Bool := ks.all fun x => match x.2 with
  | .smear b' => b' != b || dep ops x.1 i
  | _ => true
structure Facts (ks : Kinds) (ops : Array Oper) (wr : World) (β : Nat → Value) (i : Nat) (w : World) : Prop where
  only : Only (stores ks) wr w
  old : ∀ j b T old new, kindOf ks j = .store b T old new → dep ops j i = true → Blk w b T old
  got : ∀ j {fr} p F, kindOf ks j = .letterB fr p F → dep ops i j = true → F (β j) w
  ne : ∀ j k, isFresh (kindOf ks j) = true → isFresh (kindOf ks k) = true → j ≠ k → dep ops i j = true → dep ops i k = true → ∀ b ∈ blksOf (β j), b ∉ blksOf (β k)
  grew : ∀ j b p F, kindOf ks j = .letterB (.grow b) p F → (j = i ∨ dep ops j i = true) → w.heap[b]? = wr.heap[b]?
  still : ∀ j b, kindOf ks j = .smear b → unsmeared ks ops b i = true → w.heap[b]? = wr.heap[b]?
  shape : ∀ j b, kindOf ks j = .smear b → shp w.heap[b]? = shp wr.heap[b]?
theorem fresh_of {k : Kind} (h : isFresh k = true) : ∃ p F, k = .letterB .fresh p F := by
  cases k with
  | letterB fr p F => cases fr with
    | fresh => exact ⟨p, F, rfl⟩
    | _ => cases h
  | _ => cases h
/-- Letters that an operation waits for, all of them of memory that nobody had: no two share any. -/
theorem Facts.apart {ks : Kinds} {ops : Array Oper} {wr : World} {β : Nat → Value} {i : Nat} {w : World} (h : Facts ks ops wr β i w) (js : List Nat) (hn : js.Nodup) (hj : (js.all fun j => isFresh (kindOf ks j) && dep ops i j) = true) :
    ∀ (a c : Nat) (u v : Value), a ≠ c → (js.map β)[a]? = some u → (js.map β)[c]? = some v → ∀ b ∈ blksOf u, b ∉ blksOf v := by
  intro a c u v hne hu hv
  rw [List.getElem?_map, Option.map_eq_some_iff] at hu hv
  obtain ⟨j, ej, rfl⟩ := hu
  obtain ⟨k, ek, rfl⟩ := hv
  have g1 := List.all_eq_true.1 hj j (List.mem_of_getElem? ej)
  have g2 := List.all_eq_true.1 hj k (List.mem_of_getElem? ek)
  rw [Bool.and_eq_true] at g1 g2
  refine h.ne j k g1.1 g2.1 (fun e => hne ?_) g1.2 g2.2
  subst e
  exact (List.getElem?_inj (List.getElem?_eq_some_iff.1 ej).1 hn).1 (ej.trans ek.symm)
/-- What is shown of an operation, its kind being known. -/
def Yield (P : Program) (ks : Kinds) (ops : Array Oper) (wr : World) (β : Nat → Value) (i : Nat) (o : Oper) (a : Act) (v : Value) : Kind → Prop
  | .val => ∀ w, Facts ks ops wr β i w → (execOp a.eval o).run P w = .ok (.value v) w
  | .call u => v = u ∧ ∀ w, Facts ks ops wr β i w → ∃ f args, (execOp a.eval o).run P w = .ok (.enter f args) w ∧ Calls P f args w fun e w' => e = .returned u ∧ Below w.heap.size w w'
  | .store b T old new => v = undef ∧ ∀ w, Facts ks ops wr β i w → Blk w b T old → ∃ w', (execOp a.eval o).run P w = .ok .skip w' ∧ Repl w w' b T (new β)
  | .alloc _ T zero _ => v = β i ∧ ∀ w : World, (execOp a.eval o).run P w = .ok (.value (.pointer (some ⟨w.heap.size, 0, none⟩))) (w.alloc (.cells zero T))
  | .init al => v = undef ∧ ∀ s T zero new, kindOf ks al = .alloc s T zero new → ∀ b w, β al = .pointer (some ⟨b, 0, none⟩) → Facts ks ops wr β i w → Blk w b T zero → ∃ w', (execOp a.eval o).run P w = .ok .skip w' ∧ Repl w w' b T (new β)
  | .smear b => v = undef ∧ ∀ w, Facts ks ops wr β i w → ∃ w', (execOp a.eval o).run P w = .ok .skip w' ∧ w.grownBy w' (some b) ∧ shp w'.heap[b]? = shp w.heap[b]?
  | .letterB fr p F => v = β i ∧ ∀ w, Facts ks ops wr β i w → (∃ f args, (execOp a.eval o).run P w = .ok (.enter f args) w ∧ Calls P f args w fun e w' => ∃ u, e = .returned u ∧ p u ∧ F u w' ∧ Below w.heap.size w w' ∧ FreshB fr u w w') ∨ (∃ u w', (execOp a.eval o).run P w = .ok (.value u) w' ∧ p u ∧ F u w' ∧ (Below w.heap.size w w' ∨ MildK ks ops i wr w w' ∨ ∃ b, fr = .grow b ∧ w.grownBy w' (some b)) ∧ FreshB fr u w w')
/-- THE WALK. -/
def Lex (P : Program) (ks : Kinds) (ops : Array Oper) (wr : World) (β : Nat → Value) (Fin : Act → Prop) : Nat → List Oper → Act → Prop
  | _, [], a => Fin a
  | i, o :: rest, a => (Region.wanted o (yielded ops a.tmps) = true ∧ ∃ v, Yield P ks ops wr β i o a v (kindOf ks i) ∧ Lex P ks ops wr β Fin (i + 1) rest (a.put o.dst v)) ∨
    (Region.wanted o (yielded ops a.tmps) = false ∧ kindOf ks i = .val ∧ Lex P ks ops wr β Fin (i + 1) rest (a.put o.dst undef))
/-- The frame ahead of operation k. -/
def fr (ops : Array Oper) (a : Act) (vs : Nat → Value) : Nat → Act
  | 0 => a
  | k + 1 => (fr ops a vs k).put ((ops[k]?).bind (·.dst)) (vs k)
theorem fr_succ (ops : Array Oper) (a : Act) (vs : Nat → Value) (k : Nat) : fr ops a vs (k + 1) = (fr ops a vs k).put ((ops[k]?).bind (·.dst)) (vs k) := rfl
theorem fr_congr {ops : Array Oper} {a : Act} {vs vs' : Nat → Value} : ∀ k, (∀ j, j < k → vs j = vs' j) → fr ops a vs k = fr ops a vs' k
  | 0, _ => rfl
  | k + 1, h => by
    unfold fr
    rw [fr_congr k (fun j hj => h j (by omega)), h k (by omega)]
theorem put_size (a : Act) (d : Option Nat) (v : Value) : (a.put d v).tmps.size = a.tmps.size := by cases d <;> simp [Act.put]
theorem put_defers (a : Act) (d : Option Nat) (v : Value) : (a.put d v).defers = a.defers := by cases d <;> simp [Act.put]
theorem put_other (a : Act) (d : Option Nat) (v : Value) (t : Nat) (h : d ≠ some t) : (a.put d v).tmps[t]? = a.tmps[t]? := by
  cases d with
  | none => rfl
  | some d => exact put_far a d t v (fun e => h (by rw [e]))
theorem fr_size {ops : Array Oper} {a : Act} {vs : Nat → Value} : ∀ k, (fr ops a vs k).tmps.size = a.tmps.size
  | 0 => rfl
  | k + 1 => by unfold fr; rw [put_size, fr_size k]
theorem fr_defers {ops : Array Oper} {a : Act} {vs : Nat → Value} : ∀ k, (fr ops a vs k).defers = a.defers
  | 0 => rfl
  | k + 1 => by unfold fr; rw [put_defers, fr_defers k]
theorem fr_none {ops : Array Oper} {a : Act} {vs : Nat → Value} (t : Nat) : ∀ k, (∀ j o, j < k → ops[j]? = some o → o.dst ≠ some t) → (fr ops a vs k).tmps[t]? = a.tmps[t]?
  | 0, _ => rfl
  | k + 1, h => by
    unfold fr
    rw [put_other, fr_none t k (fun j o hj ho => h j o (by omega) ho)]
    intro e
    cases ho : ops[k]? with
    | none => rw [ho] at e; cases e
    | some o => rw [ho] at e; exact h k o (by omega) ho e
theorem fr_some {ops : Array Oper} {a : Act} {vs : Nat → Value} (hone : ∀ (i j : Nat) (x y : Oper) (t : Nat), i < j → ops[i]? = some x → ops[j]? = some y → x.dst = some t → y.dst ≠ some t) {t : Nat} (ht : t < a.tmps.size) : ∀ k j o, j < k → ops[j]? = some o → o.dst = some t → (fr ops a vs k).tmps[t]? = some (vs j)
  | 0, _, _, h, _, _ => by omega
  | k + 1, j, o, hj, ho, hd => by
    unfold fr
    by_cases e : j = k
    · subst e
      rw [ho]
      show ((fr ops a vs j).put o.dst (vs j)).tmps[t]? = _
      rw [hd]
      exact put_here _ _ _ (by rw [fr_size]; exact ht)
    · have hjk : j < k := by omega
      rw [put_other, fr_some hone ht k j o hjk ho hd]
      intro e'
      cases hk : ops[k]? with
      | none => rw [hk] at e'; cases e'
      | some y => rw [hk] at e'; exact hone j k o y t hjk ho hk hd e'
theorem lex_run {P : Program} {ks : Kinds} {ops : Array Oper} {wr : World} {β : Nat → Value} {Fin : Act → Prop} {a0 : Act} : ∀ (l : List Oper) (i : Nat) (vs0 : Nat → Value), (∀ j, l[j]? = ops[i + j]?) → Lex P ks ops wr β Fin i l (fr ops a0 vs0 i) →
    ∃ vs : Nat → Value, (∀ j, j < i → vs j = vs0 j) ∧ (∀ k o, i ≤ k → ops[k]? = some o →
      (Region.wanted o (yielded ops (fr ops a0 vs k).tmps) = true ∧ Yield P ks ops wr β k o (fr ops a0 vs k) (vs k) (kindOf ks k)) ∨
      (Region.wanted o (yielded ops (fr ops a0 vs k).tmps) = false ∧ kindOf ks k = .val ∧ vs k = undef)) ∧ Fin (fr ops a0 vs (i + l.length))
  | [], i, vs0, hl, h => ⟨vs0, fun _ _ => rfl, fun k o hk ho => by
      have := hl (k - i)
      rw [show i + (k - i) = k from by omega, ho] at this
      simp at this, by simpa [Lex] using h⟩
  | o :: l, i, vs0, hl, h => by
    have h0 : ops[i]? = some o := by simpa using (hl 0).symm
    have hl' : ∀ j, l[j]? = ops[i + 1 + j]? := fun j => by have := hl (j + 1); simpa [Nat.add_assoc, Nat.add_comm 1 j] using this
    have key : ∀ v, Lex P ks ops wr β Fin (i + 1) l ((fr ops a0 vs0 i).put o.dst v) → ∃ vs : Nat → Value, (∀ j, j < i → vs j = vs0 j) ∧ vs i = v ∧ (∀ k o, i + 1 ≤ k → ops[k]? = some o →
      (Region.wanted o (yielded ops (fr ops a0 vs k).tmps) = true ∧ Yield P ks ops wr β k o (fr ops a0 vs k) (vs k) (kindOf ks k)) ∨
      (Region.wanted o (yielded ops (fr ops a0 vs k).tmps) = false ∧ kindOf ks k = .val ∧ vs k = undef)) ∧ Fin (fr ops a0 vs (i + 1 + l.length)) := by
      intro v hv
      have e1 : (fr ops a0 vs0 i).put o.dst v = fr ops a0 (fun j => if j = i then v else vs0 j) (i + 1) := by
        rw [fr_succ, h0, fr_congr i (vs := fun j => if j = i then v else vs0 j) (vs' := vs0) (fun j hj => if_neg (by omega))]
        simp
      rw [e1] at hv
      obtain ⟨vs, g1, g2, g3⟩ := lex_run l (i + 1) _ hl' hv
      refine ⟨vs, fun j hj => ?_, ?_, g2, g3⟩
      · rw [g1 j (by omega), if_neg (by omega)]
      · rw [g1 i (by omega), if_pos rfl]
    have lenE : i + (o :: l).length = i + 1 + l.length := by simp; omega
    rw [lenE]
    rcases h with ⟨hw, v, hy, hr⟩ | ⟨hw, hk, hr⟩
    · obtain ⟨vs, g1, g2, g3, g4⟩ := key v hr
      have ef : fr ops a0 vs i = fr ops a0 vs0 i := fr_congr i g1
      refine ⟨vs, g1, fun k o' hk ho' => ?_, g4⟩
      by_cases e : k = i
      · subst e
        rw [h0] at ho'
        injection ho' with ho'
        subst ho'
        left
        rw [ef, g2]
        exact ⟨hw, hy⟩
      · exact g3 k o' (by omega) ho'
    · obtain ⟨vs, g1, g2, g3, g4⟩ := key undef hr
      have ef : fr ops a0 vs i = fr ops a0 vs0 i := fr_congr i g1
      refine ⟨vs, g1, fun k o' hk' ho' => ?_, g4⟩
      by_cases e : k = i
      · subst e
        rw [h0] at ho'
        injection ho' with ho'
        subst ho'
        right
        rw [ef]
        exact ⟨hw, hk, g2⟩
      · exact g3 k o' (by omega) ho'
end Go.Proofs.YtfnamfkjbkhgeaaGreatDoor

namespace Go.Proofs.YtfnamfkjbkhgeaaGreatDoor

open Go Go.RowKit

def updL (L : Nat → Bool) (i : Nat) : Nat → Bool := fun j => if j = i then true else L j
theorem updL_here (L : Nat → Bool) (i : Nat) : updL L i i = true := if_pos rfl
theorem updL_far (L : Nat → Bool) {i j : Nat} (h : j ≠ i) : updL L i j = L j := if_neg h
theorem updL_cases {L : Nat → Bool} {i j : Nat} (h : updL L i j = true) : j = i ∨ (j ≠ i ∧ L j = true) := by
  by_cases e : j = i
  · exact .inl e
  · exact .inr ⟨e, by rwa [updL_far L e] at h⟩
theorem dep_of {ops : Array Oper} {j i : Nat} {o : Oper} (ho : ops[j]? = some o) {e : Edge} (he : e ∈ o.after) (hb : Region.binds .any e = true) (hi : e.on = i) : dep ops j i = true := by
  unfold dep
  rw [ho]
  show (o.after.any fun e => Region.binds .any e && e.on == i) = true
  rw [Array.any_eq_true']
  exact ⟨e, he, by rw [hb]; simp [hi]⟩
theorem of_dep {ops : Array Oper} {j i : Nat} {o : Oper} (ho : ops[j]? = some o) (h : dep ops j i = true) : ∃ e ∈ o.after, Region.binds .any e = true ∧ e.on = i := by
  unfold dep at h
  rw [ho] at h
  have h' : (o.after.any fun e => Region.binds .any e && e.on == i) = true := h
  rw [Array.any_eq_true'] at h'
  obtain ⟨e, he, hb⟩ := h'
  rw [Bool.and_eq_true] at hb
  exact ⟨e, he, hb.1, by simpa using hb.2⟩
theorem dep_some {ops : Array Oper} {j i : Nat} (h : dep ops j i = true) : ∃ o, ops[j]? = some o := by
  unfold dep at h
  cases ho : ops[j]? with
  | none => rw [ho] at h; cases h
  | some o => exact ⟨o, rfl⟩

section

variable {P : Program} {ops : Array Oper} {Q : Exit → Act → World → Prop}

theorem wpAny_inv (Inv : (Nat → Bool) → Act → World → Prop)
    (hacy : ∀ i j, dep ops j i = true → i < j)
    (hstep : ∀ i o L a w, ops[i]? = some o → L i = false → (∀ j, dep ops i j = true → L j = true) → (∀ j, dep ops j i = true → L j = false) → Inv L a w → wpOp P ops Q i (Inv (updL L i)) a w)
    (hend : ∀ L a w, (∀ i, i < ops.size → L i = true) → Inv L a w → Q .normal a w) :
    ∀ (fuel : Nat) (listed : Array Bool) (a : Act) (w : World), listed.size = ops.size → listed.toList.count false ≤ fuel → (∀ j i, dep ops j i = true → listed.getD j false = true → listed.getD i false = true) →
      Inv (fun j => listed.getD j false) a w → wpAny P .any ops Q fuel listed a w := by
  have hacy' : ∀ (i : Nat) (o : Oper), ops[i]? = some o → ∀ e ∈ o.after, Region.binds .any e = true → e.on < i := fun i o ho e he hb => hacy e.on i (dep_of ho he hb rfl)
  intro fuel
  induction fuel with
  | zero =>
    intro listed a w hs hc hcl hI
    have hn : Region.ready .any ops listed = [] := by
      apply List.eq_nil_iff_forall_not_mem.2
      intro i hi
      obtain ⟨o, ho, h1, _⟩ := ready_mem hi
      have hli : i < listed.size := by rw [hs]; exact (Array.getElem?_eq_some_iff.1 ho).1
      have h2 : listed.toList[i]? = some false := by
        simp only [Array.getD, hli, dif_pos] at h1
        rw [Array.getElem?_toList, Array.getElem?_eq_getElem hli]
        exact congrArg some h1
      have := count_set _ _ h2
      omega
    exact ⟨hn, hend _ a w (ready_nil hacy' hs hn) hI⟩
  | succ fuel ih =>
    intro listed a w hs hc hcl hI
    refine ⟨fun hn => hend _ a w (ready_nil hacy' hs hn) hI, fun i hi => ?_⟩
    obtain ⟨o, ho, h1, h3⟩ := ready_mem hi
    have hli : i < listed.size := by rw [hs]; exact (Array.getElem?_eq_some_iff.1 ho).1
    have h1' : listed[i] = false := by
      have h := h1
      simp only [Array.getD, hli, dif_pos] at h
      exact h
    have hLi : listed.getD i false = false := by simp [Array.getD, hli, h1']
    have h2 : listed.toList[i]? = some false := by
      rw [Array.getElem?_toList, Array.getElem?_eq_getElem hli, h1']
    have hdep : ∀ j, dep ops i j = true → listed.getD j false = true := fun j hj => by
      obtain ⟨e, he, hb, rfl⟩ := of_dep ho hj
      exact h3 e he hb
    have hneg : ∀ j, dep ops j i = true → listed.getD j false = false := fun j hj => by
      cases hb : listed.getD j false
      · rfl
      · have := hcl j i hj hb
        rw [hLi] at this
        cases this
    have hupd : ∀ j, (listed.setIfInBounds i true).getD j false = updL (fun j => listed.getD j false) i j := by
      intro j
      unfold updL
      by_cases e : j = i
      · subst e
        rw [if_pos rfl]
        simp [Array.getD, hli]
      · rw [if_neg e]
        by_cases hl : j < listed.size
        · simp only [Array.getD, Array.size_setIfInBounds, hl, dif_pos]
          change (listed.setIfInBounds i true)[j]'(by simpa using hl) = listed[j]
          rw [Array.getElem_setIfInBounds, if_neg (Ne.symm e)]
        · simp [Array.getD, hl]
    refine wpOp_mono (fun a' w' hk => ih _ a' w' (by simpa using hs) ?_ ?_ ?_) (hstep i o _ a w ho hLi hdep hneg hI)
    · have := count_set _ _ h2
      rw [Array.toList_setIfInBounds]
      omega
    · intro j k hjk hj
      rw [hupd] at hj ⊢
      rcases updL_cases hj with e | ⟨e, hj'⟩
      · subst e
        have hk := hdep k hjk
        by_cases e : k = j
        · subst e; exact updL_here _ _
        · rw [updL_far _ e]; exact hk
      · have hk := hcl j k hjk hj'
        by_cases e : k = i
        · subst e; exact updL_here _ _
        · rw [updL_far _ e]; exact hk
    · rw [show (fun j => (listed.setIfInBounds i true).getD j false) = updL (fun j => listed.getD j false) i from funext hupd]
      exact hk
end

/-- Of fresh letters: their blocks are below a height, and no two share one. -/
structure FreshP (ks : Kinds) (L : Nat → Bool) (β : Nat → Value) (n : Nat) : Prop where
  lt : ∀ j p F, kindOf ks j = .letterB .fresh p F → L j = true → ∀ b ∈ blksOf (β j), b < n
  ne : ∀ i j p F q G, kindOf ks i = .letterB .fresh p F → kindOf ks j = .letterB .fresh q G → i ≠ j → L i = true → L j = true → ∀ b ∈ blksOf (β i), b ∉ blksOf (β j)
theorem FreshP.step {ks : Kinds} {L : Nat → Bool} {β : Nat → Value} {n n' i : Nat} (h : FreshP ks L β n) (hn : n ≤ n') (hi : ∀ p F, kindOf ks i ≠ .letterB .fresh p F) : FreshP ks (updL L i) β n' :=
  ⟨fun j p F hj hL b hb => Nat.lt_of_lt_of_le (h.lt j p F hj (by rwa [updL_far L (fun e => hi p F (by rw [← e]; exact hj))] at hL) b hb) hn,
   fun a j p F q G ha hj hne hLa hLj => h.ne a j p F q G ha hj hne (by rwa [updL_far L (fun e => hi p F (by rw [← e]; exact ha))] at hLa) (by rwa [updL_far L (fun e => hi q G (by rw [← e]; exact hj))] at hLj)⟩
theorem FreshP.new {ks : Kinds} {L : Nat → Bool} {β : Nat → Value} {n n' i : Nat} (h : FreshP ks L β n) (hn : n ≤ n') (hu : ∀ b ∈ blksOf (β i), n ≤ b ∧ b < n') : FreshP ks (updL L i) β n' := by
  refine ⟨fun j p F hj hL b hb => ?_, fun a j p F q G ha hj hne hLa hLj b hb hb' => ?_⟩
  · rcases updL_cases hL with e | ⟨_, hL'⟩
    · subst e; exact (hu b hb).2
    · exact Nat.lt_of_lt_of_le (h.lt j p F hj hL' b hb) hn
  · rcases updL_cases hLa with e | ⟨_, hLa'⟩ <;> rcases updL_cases hLj with e' | ⟨_, hLj'⟩
    · exact hne (e.trans e'.symm)
    · subst e
      have := h.lt j q G hj hLj' b hb'
      have := (hu b hb).1
      omega
    · subst e'
      have := h.lt a p F ha hLa' b hb
      have := (hu b hb').1
      omega
    · exact h.ne a j p F q G ha hj hne hLa' hLj' b hb hb'
theorem updL_false {L : Nat → Bool} {i j : Nat} (h : updL L i j = false) : j ≠ i ∧ L j = false := by
  by_cases e : j = i
  · subst e; rw [updL_here] at h; cases h
  · exact ⟨e, by rwa [updL_far L e] at h⟩
/-- What holds of a world, and of a frame, some operations having been done, the letters being β. -/
structure Part (ks : Kinds) (ops : Array Oper) (wr : World) (V : (Nat → Value) → Nat → Value) (L : Nat → Bool) (β : Nat → Value) (a : Act) (w : World) : Prop where
  slot : ∀ (k : Nat) (o : Oper) t, ops[k]? = some o → L k = true → o.dst = some t → a.tmps[t]? = some (V β k)
  st : ∀ j b T old new, kindOf ks j = .store b T old new → Blk w b T (if L j = true then new β else old)
  al : ∀ j s T z n, kindOf ks j = .alloc s T z n → L j = true → ∃ b, β j = .pointer (some ⟨b, 0, none⟩) ∧ wr.heap.size ≤ b ∧ Blk w b T (if L s = true then n β else z)
  ne : ∀ i s T z n j s' T' z' n', kindOf ks i = .alloc s T z n → kindOf ks j = .alloc s' T' z' n' → i ≠ j → L i = true → L j = true → β i ≠ β j
  lt : ∀ j {f} p F, kindOf ks j = .letterB f p F → L j = true → p (β j) ∧ F (β j) w
  fr : FreshP ks L β w.heap.size
  gr : ∀ j b p F, kindOf ks j = .letterB (.grow b) p F → b < w.heap.size ∧ (L j = false → w.heap[b]? = wr.heap[b]?)
  sm : ∀ j b, kindOf ks j = .smear b → b < w.heap.size ∧ ((∀ k, kindOf ks k = .smear b → L k = false) → w.heap[b]? = wr.heap[b]?) ∧ shp w.heap[b]? = shp wr.heap[b]?
theorem Kept.of_below {ks : Kinds} {wr w w' : World} (h : Below w.heap.size w w') : Kept ks wr w w' := ⟨h.size, fun k hk _ _ => h.block k hk⟩
/-- The world has grown; nothing special has been done. -/
theorem Part.grow {ks : Kinds} {ops : Array Oper} {wr : World} {V : (Nat → Value) → Nat → Value} {L : Nat → Bool} {β : Nat → Value} {a a' : Act} {w w' : World} {i : Nat}
    (h : Part ks ops wr V L β a w) (ht : tiedK ops ks = true) (hk : kindOf ks i = .val ∨ ∃ v, kindOf ks i = .call v) (hb : Below w.heap.size w w')
    (hstab : ∀ x ∈ ks, stabK ks wr x.2) (hs : ∀ (k : Nat) (o : Oper) t, ops[k]? = some o → updL L i k = true → o.dst = some t → a'.tmps[t]? = some (V β k)) : Part ks ops wr V (updL L i) β a' w' := by
  have hne : ∀ j, kindOf ks j ≠ .val → (∀ v, kindOf ks j ≠ .call v) → j ≠ i := fun j h1 h2 e => by
    subst e
    rcases hk with hk | ⟨v, hk⟩
    · exact h1 hk
    · exact h2 v hk
  refine ⟨hs, ?_, ?_, ?_, ?_, h.fr.step hb.size (fun p F e => by rcases hk with hk | ⟨v, hk⟩ <;> (rw [hk] at e; cases e)), fun j b p F hj => (let ⟨h1, h2⟩ := h.gr j b p F hj; ⟨Nat.lt_of_lt_of_le h1 hb.size, fun hL => (hb.block b h1).trans (h2 (updL_false hL).2)⟩), fun j b hj => (let ⟨h1, h2, h3⟩ := h.sm j b hj; ⟨Nat.lt_of_lt_of_le h1 hb.size, fun hL => (hb.block b h1).trans (h2 (fun k hk => (updL_false (hL k hk)).2)), (congrArg shp (hb.block b h1)).trans h3⟩)⟩
  · intro j b T old new hj
    rw [updL_far L (hne j (by rw [hj]; simp) (by rw [hj]; simp))]
    exact (h.st j b T old new hj).next hb
  · intro j s T z n hj hL
    have hji := hne j (by rw [hj]; simp) (by rw [hj]; simp)
    have hs' := (kind_tied ht hj).1
    rw [updL_far L hji] at hL
    obtain ⟨b, h1, h2, h3⟩ := h.al j s T z n hj hL
    rw [updL_far L (hne s (by rw [hs']; simp) (by rw [hs']; simp))]
    exact ⟨b, h1, h2, h3.next hb⟩
  · intro i' s T z n j s' T' z' n' h1 h2 hij hL1 hL2
    rw [updL_far L (hne i' (by rw [h1]; simp) (by rw [h1]; simp))] at hL1
    rw [updL_far L (hne j (by rw [h2]; simp) (by rw [h2]; simp))] at hL2
    exact h.ne i' s T z n j s' T' z' n' h1 h2 hij hL1 hL2
  · intro j f p F hj hL
    rw [updL_far L (hne j (by rw [hj]; simp) (by rw [hj]; simp))] at hL
    obtain ⟨h1, h2⟩ := h.lt j p F hj hL
    exact ⟨h1, stab_use (hstab _ (kind_mem hj (by simp))) (Kept.of_below hb) (fun b e => by subst e; exact hb.block b (h.gr j b p F hj).1) h2⟩
end Go.Proofs.YtfnamfkjbkhgeaaGreatDoor

namespace Go.Proofs.YtfnamfkjbkhgeaaGreatDoor

open Go Go.RowKit

theorem looks_mem {ops : Array Oper} {o : Oper} {t : Nat} (h : .tmp t ∈ o.op.operands) : t ∈ o.looksAt ops := by
  unfold Oper.looksAt
  exact List.mem_append_left _ (List.mem_filterMap.2 ⟨.tmp t, by simpa using h, rfl⟩)
/-- Two frames that agree where an operation looks. -/
theorem same_exec {ops : Array Oper} {o : Oper} {a b : Act} (hsel : ∀ cs d, o.op ≠ .select cs d) (h : ∀ t ∈ o.looksAt ops, a.tmps[t]? = b.tmps[t]?) :
    execOp a.eval o = execOp b.eval o ∧ Region.wanted o (yielded ops a.tmps) = Region.wanted o (yielded ops b.tmps) := by
  constructor
  · refine execOp_congr o hsel fun x hx => ?_
    cases x with
    | tmp t =>
      show a.tmps.getD t undef = b.tmps.getD t undef
      have := h t (looks_mem hx)
      rw [Array.getD_eq_getD_getElem?, Array.getD_eq_getD_getElem?, this]
    | _ => rfl
  · unfold Region.wanted
    cases hg : o.guard with
    | none => rfl
    | some gw =>
      obtain ⟨g, want⟩ := gw
      have hy : yielded ops a.tmps g = yielded ops b.tmps g := by
        unfold yielded
        cases ht : (ops[g]?).bind (·.dst) with
        | none => rfl
        | some t =>
          have := h t (by unfold Oper.looksAt; rw [hg]; simp [ht])
          simp [this]
      simp only [hy]
/-- The end's facts. -/
structure AtEnd (ks : Kinds) (wr : World) (β : Nat → Value) (w : World) : Prop where
  only : Only (stores ks) wr w
  facts : ∀ i, endK wr β i w (kindOf ks i)
  ne : ∀ i j, i ≠ j → unlikeK β i j (kindOf ks i) (kindOf ks j)

theorem text_spec {ops : Array Oper} (h : textOk ops = true) :
    (∀ (i : Nat) (o : Oper), ops[i]? = some o → ∀ cs d, o.op ≠ .select cs d) ∧ (∀ i j, dep ops j i = true → i < j) ∧
    (∀ (i j : Nat) (x y : Oper), i < j → ops[i]? = some x → ops[j]? = some y → (x.apart ops y = true ∨ dep ops j i = true)) ∧
    (∀ (i j : Nat) (x y : Oper) (t : Nat), i < j → ops[i]? = some x → ops[j]? = some y → x.dst = some t → y.dst ≠ some t) := by
  unfold textOk at h
  rw [Bool.and_eq_true, Bool.and_eq_true] at h
  obtain ⟨⟨h1, h0⟩, h2⟩ := h
  have lt : ∀ {i : Nat} {o : Oper}, ops[i]? = some o → i < ops.size := fun h => (Array.getElem?_eq_some_iff.1 h).1
  have key : ∀ i j : Nat, i < ops.size → j < ops.size → _ := fun i j hi hj => List.all_eq_true.1 (List.all_eq_true.1 h2 j (List.mem_range.2 hj)) i (List.mem_range.2 hi)
  refine ⟨fun i o ho cs d e => ?_, fun i j hd => ?_, fun i j x y hij hx hy => ?_, fun i j x y t hij hx hy hdx hdy => ?_⟩
  · rw [Array.all_eq_true'] at h1
    have := h1 o (Array.mem_of_getElem? ho)
    rw [e] at this
    cases this
  · obtain ⟨o, ho⟩ := dep_some hd
    obtain ⟨e, he, hb, hei⟩ := of_dep ho hd
    have := List.all_eq_true.1 h0 j (List.mem_range.2 (lt ho))
    rw [ho] at this
    have h' : (o.after.all fun e => !Region.binds .any e || decide (e.on < j)) = true := this
    rw [Array.all_eq_true'] at h'
    have := h' e he
    rw [hb, hei] at this
    simpa using this
  · have := key i j (lt hx) (lt hy)
    rw [if_pos hij, hx, hy] at this
    simp only [Bool.and_eq_true, Bool.or_eq_true] at this
    exact this.1
  · have := key i j (lt hx) (lt hy)
    rw [if_pos hij, hx, hy] at this
    simp only [Bool.and_eq_true, Bool.or_eq_true] at this
    rcases this.2 with h | h
    · rw [hdx] at h; cases h
    · rw [hdx, hdy] at h; simp at h
end Go.Proofs.YtfnamfkjbkhgeaaGreatDoor

namespace Go.Proofs.YtfnamfkjbkhgeaaGreatDoor

open Go Go.RowKit

def updV (β : Nat → Value) (i : Nat) (v : Value) : Nat → Value := fun j => if j = i then v else β j
theorem updV_here (β : Nat → Value) (i : Nat) (v : Value) : updV β i v i = v := if_pos rfl
theorem updV_far (β : Nat → Value) {i j : Nat} (v : Value) (h : j ≠ i) : updV β i v j = β j := if_neg h
theorem smear_dep {ks : Kinds} {ops : Array Oper} {b i j : Nat} (h : unsmeared ks ops b i = true) (hj : (j, Kind.smear b) ∈ ks) : dep ops j i = true := by
  have h2 := List.all_eq_true.1 h _ hj
  simpa using h2
theorem freshStep {ks : Kinds} {L : Nat → Bool} {β : Nat → Value} {w w' : World} {i : Nat} {fr : LTag} {p : Value → Prop} {F : Value → World → Prop} (h : FreshP ks L β w.heap.size) (hn : w.heap.size ≤ w'.heap.size) (hk : kindOf ks i = .letterB fr p F) (hu : FreshB fr (β i) w w') : FreshP ks (updL L i) β w'.heap.size := by
  cases fr with
  | fresh => exact h.new hn (hu rfl)
  | _ => exact h.step hn (fun q G e => by rw [hk] at e; cases e)
set_option maxHeartbeats 1000000 in
theorem wp_region_mix {P : Program} {id : Nat} {ops : Array Oper} {a0 : Act} {w : World} {Q : Exit → Act → World → Prop} (hm : P.follows .mixedOrders = true) (ks : Kinds)
    (htext : textOk ops = true) (htied : tiedK ops ks = true) (hslots : slotsOk ops a0.tmps.size = true) (hkeys : ks.all (fun x => decide (x.1 < ops.size)) = true)
    (hapart : ks.Pairwise fun x y => apartK x.2 y.2) (hstart : ∀ x ∈ ks, startK w x.2) (hstab : ∀ x ∈ ks, stabK ks w x.2)
    (hok : ∃ β, ∀ i, okK w β i (kindOf ks i))
    (hwalk : ∀ β, (∀ i, okK w β i (kindOf ks i)) → Lex P ks ops w β (fun a => ∀ w', AtEnd ks w β w' → Q .normal a w') 0 ops.toList a0) :
    (Code.region id ops true).wp P Q a0 w := by
  obtain ⟨hsel, hacy, hcl, hone⟩ := text_spec htext
  have hsl : ∀ (i : Nat) (o : Oper) d, ops[i]? = some o → o.dst = some d → d < a0.tmps.size := fun i o d ho hd => by
    unfold slotsOk at hslots
    rw [Array.all_eq_true'] at hslots
    have := hslots o (Array.mem_of_getElem? ho)
    rw [hd] at this
    simpa using this
  have uniq : ∀ (i j : Nat) (x y : Oper) (t : Nat), ops[i]? = some x → ops[j]? = some y → x.dst = some t → y.dst = some t → i = j := fun i j x y t hx hy hdx hdy => by
    rcases Nat.lt_trichotomy i j with h | h | h
    · exact absurd hdy (hone i j x y t h hx hy hdx)
    · exact h
    · exact absurd hdx (hone j i y x t h hy hx hdy)
  have hvs : ∀ β, ∃ vs : Nat → Value, (∀ i, okK w β i (kindOf ks i)) → ((∀ (k : Nat) o, ops[k]? = some o →
      (Region.wanted o (yielded ops (fr ops a0 vs k).tmps) = true ∧ Yield P ks ops w β k o (fr ops a0 vs k) (vs k) (kindOf ks k)) ∨
      (Region.wanted o (yielded ops (fr ops a0 vs k).tmps) = false ∧ kindOf ks k = .val ∧ vs k = undef)) ∧ ∀ w', AtEnd ks w β w' → Q .normal (fr ops a0 vs ops.size) w') := fun β => by
    by_cases hβ : ∀ i, okK w β i (kindOf ks i)
    · obtain ⟨vs, _, h2, h3⟩ := lex_run (P := P) (ks := ks) (ops := ops) (wr := w) (β := β) (a0 := a0) ops.toList 0 (fun _ => undef) (fun j => by simp) (hwalk β hβ)
      refine ⟨vs, fun _ => ⟨fun k o ho => h2 k o (Nat.zero_le _) ho, ?_⟩⟩
      simpa using h3
    · exact ⟨fun _ => undef, fun h => absurd h hβ⟩
  obtain ⟨V, hV⟩ := Classical.axiomOfChoice hvs
  have stb : ∀ i b T old new, kindOf ks i = .store b T old new → b ∈ stores ks := fun i b T old new h => by
    unfold stores
    exact List.mem_filterMap.2 ⟨_, kind_mem h (by simp), rfl⟩
  have stlt : ∀ i b T old new, kindOf ks i = .store b T old new → b < w.heap.size := fun i b T old new h => Blk.lt (show Blk w b T old from hstart _ (kind_mem h (by simp)))
  refine wp_region_any hm (wpAny_inv (P := P) (Q := Q) (fun L a w' => a.defers = a0.defers ∧ a.tmps.size = a0.tmps.size ∧ Only (stores ks) w w' ∧
      (∀ t, (∀ (k : Nat) o, ops[k]? = some o → L k = true → o.dst ≠ some t) → a.tmps[t]? = a0.tmps[t]?) ∧
      ∃ β0, (∀ i, okK w β0 i (kindOf ks i)) ∧ ∀ β, (∀ i, okK w β i (kindOf ks i)) → (∀ j, L j = true → β j = β0 j) → Part ks ops w V L β a w') hacy ?step ?fin ops.size _ a0 _ (by simp) (by simp) ?clos ?start)
  case clos =>
    intro j i _ h
    simp [Array.getD] at h
  case start =>
    refine ⟨rfl, rfl, Only.start w, fun _ _ => rfl, ?_⟩
    obtain ⟨β0, h0⟩ := hok
    have hF : ∀ j, (Array.replicate ops.size false).getD j false = false := fun j => by simp [Array.getD]
    refine ⟨β0, h0, fun β hβ _ => ⟨?_, ?_, ?_, ?_, ?_, ?_, ?_, ?_⟩⟩
    · intro k o t _ h; simp only [hF] at h; cases h
    · intro j b T old new hj
      simp only [hF, if_neg Bool.false_ne_true]
      exact (show Blk w b T old from hstart _ (kind_mem hj (by simp)))
    · intro j s T z n _ h; simp only [hF] at h; cases h
    · intro i s T z n j s' T' z' n' _ _ _ h; simp only [hF] at h; cases h
    · intro j f p F _ h; simp only [hF] at h; cases h
    · exact ⟨fun j p F _ h => (by simp only [hF] at h; cases h), fun i j p F q G _ _ _ h => (by simp only [hF] at h; cases h)⟩
    · exact fun j b p F hj => ⟨show b < w.heap.size from hstart _ (kind_mem hj (by simp)), fun _ => rfl⟩
    · exact fun j b hj => ⟨show b < w.heap.size from hstart _ (kind_mem hj (by simp)), fun _ => rfl, rfl⟩
  case fin =>
    intro L a w' hL ⟨hd, hs, ho, hn, β0, h0, hP⟩
    have hp := hP β0 h0 (fun _ _ => rfl)
    obtain ⟨_, hF⟩ := hV β0 h0
    have ea : a = fr ops a0 (V β0) ops.size := by
      have hdef : a.defers = (fr ops a0 (V β0) ops.size).defers := by rw [hd, fr_defers]
      have htm : a.tmps = (fr ops a0 (V β0) ops.size).tmps := by
        apply Array.ext_getElem?
        intro t
        by_cases hw : ∃ (k : Nat) (y : Oper), ops[k]? = some y ∧ y.dst = some t
        · obtain ⟨k, y, hy, hdy⟩ := hw
          have hk : k < ops.size := (Array.getElem?_eq_some_iff.1 hy).1
          rw [hp.slot k y t hy (hL k hk) hdy, fr_some hone (hsl k y t hy hdy) ops.size k y hk hy hdy]
        · rw [hn t (fun k o hk _ e => hw ⟨k, o, hk, e⟩), fr_none t ops.size (fun j o _ hj e => hw ⟨j, o, hj, e⟩)]
      cases a
      simp only at hdef htm
      rw [hdef, htm]
    rw [ea]
    have hlt : ∀ i k, kindOf ks i = k → k ≠ .val → L i = true := fun i k h hne => by
      have := List.all_eq_true.1 hkeys _ (kind_mem h hne)
      exact hL i (by simpa using this)
    refine hF w' ⟨ho, fun i => ?_, fun i j hij => ?_⟩
    · cases hk : kindOf ks i with
      | store b T old new =>
        have := hp.st i b T old new hk
        rw [if_pos (hlt i _ hk (by simp))] at this
        exact this
      | alloc s T z n =>
        have := hp.al i s T z n hk (hlt i _ hk (by simp))
        rw [if_pos (hlt s _ (kind_tied htied hk).1 (by simp))] at this
        exact this
      | letterB f p F => exact hp.lt i p F hk (hlt i _ hk (by simp))
      | _ => exact trivial
    · cases hi : kindOf ks i with
      | alloc s T z n =>
        cases hj : kindOf ks j with
        | alloc s' T' z' n' => exact hp.ne i s T z n j s' T' z' n' hi hj hij (hlt i _ hi (by simp)) (hlt j _ hj (by simp))
        | _ => exact trivial
      | letterB f p F =>
        cases hj : kindOf ks j with
        | letterB g q G =>
          cases f <;> cases g <;> first | exact trivial | exact hp.fr.ne i j p F q G hi hj hij (hlt i _ hi (by simp)) (hlt j _ hj (by simp))
        | _ => cases f <;> exact trivial
      | _ => exact trivial
  case step =>
    intro i o L a w' ho hLi hdep hneg ⟨hd, hs, hon, hn, β0, h0, hP⟩
    have hsame : ∀ β, (∀ i, okK w β i (kindOf ks i)) → (∀ j, L j = true → β j = β0 j) →
        execOp a.eval o = execOp (fr ops a0 (V β) i).eval o ∧ Region.wanted o (yielded ops a.tmps) = Region.wanted o (yielded ops (fr ops a0 (V β) i).tmps) := fun β hβ hag => by
      have hp := hP β hβ hag
      refine same_exec (hsel i o ho) fun t ht => ?_
      by_cases hw : ∃ (k : Nat) (y : Oper), ops[k]? = some y ∧ y.dst = some t
      · obtain ⟨k, y, hy, hdy⟩ := hw
        have hnot : k < i ∨ (¬ k < i ∧ L k = false) := by
          rcases Nat.lt_trichotomy k i with h | h | h
          · exact .inl h
          · subst h; exact .inr ⟨by omega, hLi⟩
          · refine .inr ⟨by omega, ?_⟩
            rcases hcl i k o y h ho hy with hap | hdp
            · exact absurd ht ((Oper.apart_spec hap).2.2 t hdy)
            · exact hneg k hdp
        rcases hnot with h | ⟨h, hLk⟩
        · rw [fr_some hone (hsl k y t hy hdy) i k y h hy hdy]
          refine hp.slot k y t hy ?_ hdy
          rcases hcl k i y o h hy ho with hap | hdp
          · exact absurd ht ((Oper.apart_spec hap).1 t hdy)
          · exact hdep k hdp
        · rw [hn t (fun k' o' hk' hL' e => by rw [uniq k' k o' y t hk' hy e hdy, hLk] at hL'; cases hL'),
            fr_none t i (fun j o' hj ho' e => by have := uniq j k o' y t ho' hy e hdy; omega)]
      · rw [hn t (fun k o hk _ e => hw ⟨k, o, hk, e⟩), fr_none t i (fun j o _ hj e => hw ⟨j, o, hj, e⟩)]
    have hfacts : ∀ β, (∀ i, okK w β i (kindOf ks i)) → (∀ j, L j = true → β j = β0 j) → Facts ks ops w β i w' := fun β hβ hag => by
      have hp := hP β hβ hag
      refine ⟨hon, fun j b T old new hj hdj => ?_, fun j f p F hj hdj => (hp.lt j p F hj (hdep j hdj)).2, fun j k hj hk' hne hdj hdk => by
        obtain ⟨p, F, e1⟩ := fresh_of hj
        obtain ⟨q, G, e2⟩ := fresh_of hk'
        exact hp.fr.ne j k p F q G e1 e2 hne (hdep j hdj) (hdep k hdk), fun j b p F hj hor => (hp.gr j b p F hj).2 (by
          rcases hor with e | e
          · rw [e]; exact hLi
          · exact hneg j e), fun j b hj hun => (hp.sm j b hj).2.1 (fun k hk => hneg k (smear_dep hun (kind_mem hk (by simp)))), fun j b hj => (hp.sm j b hj).2.2⟩
      have := hp.st j b T old new hj
      rw [hneg j hdj] at this
      simpa using this
    have hnone : ∀ v, ∀ t, (∀ (k : Nat) o, ops[k]? = some o → updL L i k = true → o.dst ≠ some t) → (a.put o.dst v).tmps[t]? = a0.tmps[t]? := fun v t h => by
      rw [put_other _ _ _ _ (h i o ho (updL_here _ _))]
      refine hn t fun k o' hk hLk => h k o' hk ?_
      by_cases e : k = i
      · subst e; exact updL_here _ _
      · rw [updL_far _ e]; exact hLk
    have hslot : ∀ β v, Part ks ops w V L β a w' → V β i = v → ∀ (k : Nat) (o' : Oper) t, ops[k]? = some o' → updL L i k = true → o'.dst = some t → (a.put o.dst v).tmps[t]? = some (V β k) := fun β v hp hv k o' t hk hLk hdk => by
      rcases updL_cases hLk with e | ⟨e, hLk'⟩
      · subst e
        rw [ho] at hk
        injection hk with hk
        subst hk
        rw [hdk, put_here _ _ _ (by rw [hs]; exact hsl k o t ho hdk), hv]
      · rw [put_other]
        · exact hp.slot k o' t hk hLk' hdk
        · intro e'
          exact e (uniq k i o' o t hk ho hdk e')
    have hagree : ∀ β : Nat → Value, (∀ j, updL L i j = true → β j = β0 j) → ∀ j, L j = true → β j = β0 j := fun β h j hj => h j (by
      by_cases e : j = i
      · subst e; exact updL_here _ _
      · rw [updL_far _ e]; exact hj)
    obtain ⟨hrun, _⟩ := hV β0 h0
    obtain ⟨se, sw⟩ := hsame β0 h0 (fun _ _ => rfl)
    unfold wpOp
    rw [ho]
    show if Region.wanted o (yielded ops a.tmps) = true then _ else _
    have grown : ∀ v w2, (kindOf ks i = .val ∨ ∃ u, kindOf ks i = .call u) → Below w'.heap.size w' w2 → (∀ β, (∀ i, okK w β i (kindOf ks i)) → (∀ j, L j = true → β j = β0 j) → V β i = v) →
        (a.put o.dst v).defers = a0.defers ∧ (a.put o.dst v).tmps.size = a0.tmps.size ∧ Only (stores ks) w w2 ∧
        (∀ t, (∀ (k : Nat) o, ops[k]? = some o → updL L i k = true → o.dst ≠ some t) → (a.put o.dst v).tmps[t]? = a0.tmps[t]?) ∧
        ∃ β0, (∀ i, okK w β0 i (kindOf ks i)) ∧ ∀ β, (∀ i, okK w β i (kindOf ks i)) → (∀ j, updL L i j = true → β j = β0 j) → Part ks ops w V (updL L i) β (a.put o.dst v) w2 := fun v w2 hk hb hv => by
      refine ⟨by rw [put_defers, hd], by rw [put_size, hs], hon.next hb, hnone v, β0, h0, fun β hβ hag => ?_⟩
      have hp := hP β hβ (hagree β hag)
      exact Part.grow hp htied hk hb hstab (hslot β v hp (hv β hβ (hagree β hag)))
    rcases hrun i o ho with ⟨hw, hy⟩ | ⟨hw, hk, hv⟩
    · rw [if_pos (sw.trans hw)]
      left
      unfold Oper.wp
      rw [se]
      cases hk : kindOf ks i with
      | val =>
        rw [hk] at hy
        rw [hy w' (hfacts β0 h0 (fun _ _ => rfl))]
        refine grown _ w' (.inl hk) (Below.refl _ _) fun β hβ hag => ?_
        obtain ⟨hrun', _⟩ := hV β hβ
        obtain ⟨se', sw'⟩ := hsame β hβ hag
        rcases hrun' i o ho with ⟨hw', hy'⟩ | ⟨hw', _, _⟩
        · rw [hk] at hy'
          have e1 := hy' w' (hfacts β hβ hag)
          rw [← se', se, hy w' (hfacts β0 h0 (fun _ _ => rfl))] at e1
          injection e1 with e1
          injection e1 with e1
          exact e1.symm
        · rw [← sw', sw, hw] at hw'; cases hw'
      | call u =>
        rw [hk] at hy
        obtain ⟨hvu, hy⟩ := hy
        obtain ⟨f, args, hr, hc⟩ := hy w' (hfacts β0 h0 (fun _ _ => rfl))
        rw [hr]
        refine Calls.mono hc fun e w2 ⟨he, hb⟩ => ?_
        subst he
        refine grown u w2 (.inr ⟨u, hk⟩) hb fun β hβ hag => ?_
        obtain ⟨hrun', _⟩ := hV β hβ
        obtain ⟨_, sw'⟩ := hsame β hβ hag
        rcases hrun' i o ho with ⟨_, hy'⟩ | ⟨hw', _, _⟩
        · rw [hk] at hy'; exact hy'.1
        · rw [← sw', sw, hw] at hw'; cases hw'
      | store b T old new =>
        rw [hk] at hy
        have hbl : ∀ β, Part ks ops w V L β a w' → Blk w' b T old := fun β hp => by
          have := hp.st i b T old new hk
          rw [hLi] at this
          simpa using this
        obtain ⟨w2, hr, hR0⟩ := hy.2 w' (hfacts β0 h0 (fun _ _ => rfl)) (hbl β0 (hP β0 h0 (fun _ _ => rfl)))
        rw [hr]
        have hblt := stlt i b T old new hk
        refine ⟨by rw [put_defers, hd], by rw [put_size, hs], ⟨hR0.os.trans hon.os, hR0.tape.trans hon.tape, hR0.output.trans hon.output, by rw [hR0.size]; exact hon.size, fun k hk' hS => (hR0.far k (fun e => hS (by rw [e]; exact stb i b T old new hk))).trans (hon.block k hk' hS)⟩, hnone undef, β0, h0, fun β hβ hag => ?_⟩
        have hag' := hagree β hag
        have hp := hP β hβ hag'
        obtain ⟨hrun', _⟩ := hV β hβ
        obtain ⟨se', sw'⟩ := hsame β hβ hag'
        rcases hrun' i o ho with ⟨_, hy'⟩ | ⟨hw', _, _⟩
        · rw [hk] at hy'
          obtain ⟨w3, hr', hR⟩ := hy'.2 w' (hfacts β hβ hag') (hbl β hp)
          rw [← se', se, hr] at hr'
          injection hr' with _ hr'
          subst hr'
          refine ⟨hslot β undef hp hy'.1, ?_, ?_, ?_, ?_, hp.fr.step (Nat.le_of_eq hR.size.symm) (fun p F e => by rw [hk] at e; cases e), fun j b' p F hj => by
            obtain ⟨g1, g2⟩ := hp.gr j b' p F hj
            have hji : j ≠ i := fun e => by subst e; rw [hk] at hj; cases hj
            have hne : b ≠ b' := pair_mem (R := fun (x y : Nat × Kind) => apartK x.2 y.2) (fun x y h => apartK_symm _ _ h) hapart (kind_mem hk (by simp)) (kind_mem hj (by simp)) (fun e' => hji (by injection e' with e1; exact e1.symm))
            exact ⟨by rw [hR.size]; exact g1, fun hL => (hR.far b' (Ne.symm hne)).trans (g2 (updL_false hL).2)⟩, fun j b' hj => by
            obtain ⟨g1, g2, g3⟩ := hp.sm j b' hj
            have hlt : b' < w.heap.size := hstart _ (kind_mem hj (by simp))
            exact ⟨by rw [hR.size]; exact g1, fun hL => (hR.far b' (Ne.symm (show b ≠ b' from pair_mem (R := fun (x y : Nat × Kind) => apartK x.2 y.2) (fun x y h => apartK_symm _ _ h) hapart (kind_mem hk (by simp)) (kind_mem hj (by simp)) (fun e' => by injection e' with e1; subst e1; rw [hk] at hj; cases hj)))).trans (g2 (fun k hk => (updL_false (hL k hk)).2)), (congrArg shp (hR.far b' (Ne.symm (show b ≠ b' from pair_mem (R := fun (x y : Nat × Kind) => apartK x.2 y.2) (fun x y h => apartK_symm _ _ h) hapart (kind_mem hk (by simp)) (kind_mem hj (by simp)) (fun e' => by injection e' with e1; subst e1; rw [hk] at hj; cases hj))))).trans g3⟩⟩
          · intro j b' T' old' new' hj
            by_cases e : j = i
            · subst e
              rw [hk] at hj
              injection hj with e1 e2 e3 e4
              subst e1 e2 e3 e4
              rw [updL_here, if_pos rfl]
              exact hR.here
            · rw [updL_far _ e]
              have hne : b ≠ b' := by
                have h3 := pair_mem (R := fun (x y : Nat × Kind) => apartK x.2 y.2) (fun x y h => apartK_symm _ _ h) hapart (kind_mem hk (by simp)) (kind_mem hj (by simp)) (fun e' => e (by injection e' with e1; exact e1.symm))
                exact h3
              exact (hR.far b' (Ne.symm hne)).trans (hp.st j b' T' old' new' hj)
          · intro j s T' z n hj hLj
            have e : j ≠ i := fun e => by subst e; rw [hk] at hj; cases hj
            have e2 : s ≠ i := fun e => by subst e; have := (kind_tied htied hj).1; rw [hk] at this; cases this
            rw [updL_far _ e] at hLj
            rw [updL_far _ e2]
            obtain ⟨b', g1, g2, g3⟩ := hp.al j s T' z n hj hLj
            exact ⟨b', g1, g2, (hR.far b' (by omega)).trans g3⟩
          · intro i' s T' z n j s' T'' z' n' h1 h2 hij hL1 hL2
            rw [updL_far _ (fun e => by subst e; rw [hk] at h1; cases h1)] at hL1
            rw [updL_far _ (fun e => by subst e; rw [hk] at h2; cases h2)] at hL2
            exact hp.ne i' s T' z n j s' T'' z' n' h1 h2 hij hL1 hL2
          · intro j f p F hj hLj
            rw [updL_far _ (fun e => by subst e; rw [hk] at hj; cases hj)] at hLj
            obtain ⟨g1, g2⟩ := hp.lt j p F hj hLj
            exact ⟨g1, stab_use (hstab _ (kind_mem hj (by simp))) ⟨by rw [hR.size]; exact Nat.le_refl _, fun k _ hk' _ => hR.far k (by omega)⟩ (fun b' e => by
              subst e
              have hne : b ≠ b' := pair_mem (R := fun (x y : Nat × Kind) => apartK x.2 y.2) (fun x y h => apartK_symm _ _ h) hapart (kind_mem hk (by simp)) (kind_mem hj (by simp)) (fun e' => by injection e' with e1; subst e1; rw [hk] at hj; cases hj)
              exact hR.far b' (Ne.symm hne)) g2⟩
        · rw [← sw', sw, hw] at hw'; cases hw'
      | alloc s T z n =>
        rw [hk] at hy
        rw [hy.2 w']
        have hsi := kind_tied htied hk
        have hLs : L s = false := hneg s hsi.2
        have hne_s : s ≠ i := fun e => by subst e; have := hsi.1; rw [hk] at this; cases this
        have hbw : Below w'.heap.size w' (w'.alloc (.cells z T)) := (Below.refl _ _).alloc (Nat.le_refl _) _
        refine ⟨by rw [put_defers, hd], by rw [put_size, hs], hon.next hbw, hnone _, updV β0 i (.pointer (some ⟨w'.heap.size, 0, none⟩)), fun j => ?_, fun β hβ hag => ?_⟩
        · by_cases e : j = i
          · subst e
            rw [hk]
            exact ⟨w'.heap.size, updV_here _ _ _, hon.size⟩
          · have := h0 j
            cases hkj : kindOf ks j with
            | alloc s' T' z' n' => rw [hkj] at this; obtain ⟨b', g1, g2⟩ := this; exact ⟨b', by rw [updV_far _ _ e]; exact g1, g2⟩
            | letterB f p F => rw [hkj] at this; show p _; rw [updV_far _ _ e]; exact this
            | _ => exact trivial
        · have hβi : β i = .pointer (some ⟨w'.heap.size, 0, none⟩) := by rw [hag i (updL_here _ _), updV_here]
          have hag' : ∀ j, L j = true → β j = β0 j := fun j hj => by
            have e : j ≠ i := fun e => by subst e; rw [hLi] at hj; cases hj
            rw [hag j (by rw [updL_far _ e]; exact hj), updV_far _ _ e]
          have hp := hP β hβ hag'
          obtain ⟨hrun', _⟩ := hV β hβ
          obtain ⟨se', sw'⟩ := hsame β hβ hag'
          rcases hrun' i o ho with ⟨_, hy'⟩ | ⟨hw', _, _⟩
          · rw [hk] at hy'
            refine ⟨hslot β _ hp (hy'.1.trans hβi), ?_, ?_, ?_, ?_, hp.fr.step hbw.size (fun p F e => by rw [hk] at e; cases e), fun j b' p F hj => (let ⟨g1, g2⟩ := hp.gr j b' p F hj; ⟨Nat.lt_of_lt_of_le g1 hbw.size, fun hL => (hbw.block b' g1).trans (g2 (updL_false hL).2)⟩), fun j b' hj => (let ⟨g1, g2, g3⟩ := hp.sm j b' hj; ⟨Nat.lt_of_lt_of_le g1 hbw.size, fun hL => (hbw.block b' g1).trans (g2 (fun k hk => (updL_false (hL k hk)).2)), (congrArg shp (hbw.block b' g1)).trans g3⟩)⟩
            · intro j b' T' old' new' hj
              rw [updL_far _ (fun e => by subst e; rw [hk] at hj; cases hj)]
              exact (hp.st j b' T' old' new' hj).next hbw
            · intro j s' T' z' n' hj hLj
              by_cases e : j = i
              · subst e
                rw [hk] at hj
                injection hj with e1 e2 e3 e4
                subst e1 e2 e3 e4
                refine ⟨_, hβi, hon.size, ?_⟩
                rw [updL_far _ hne_s, hLs]
                exact Blk.new w' T z
              · rw [updL_far _ e] at hLj
                obtain ⟨b', g1, g2, g3⟩ := hp.al j s' T' z' n' hj hLj
                rw [updL_far _ (fun e => by subst e; have := (kind_tied htied hj).1; rw [hk] at this; cases this)]
                exact ⟨b', g1, g2, g3.next hbw⟩
            · intro i' s1 T1 z1 n1 j s2 T2 z2 n2 h1 h2 hij hL1 hL2
              have hlt : ∀ (j : Nat) s T z n, kindOf ks j = .alloc s T z n → j ≠ i → updL L i j = true → β j ≠ β i := fun j s T z n hj e hL' => by
                rw [updL_far _ e] at hL'
                obtain ⟨b', g1, g2, g3⟩ := hp.al j s T z n hj hL'
                have := g3.lt
                rw [g1, hβi]
                intro e'
                injection e' with e'
                injection e' with e'
                injection e' with e'
                omega
              by_cases e : i' = i
              · subst e; exact Ne.symm (hlt j s2 T2 z2 n2 h2 (Ne.symm hij) hL2)
              · by_cases e2 : j = i
                · subst e2; exact hlt i' s1 T1 z1 n1 h1 e hL1
                · rw [updL_far _ e] at hL1
                  rw [updL_far _ e2] at hL2
                  exact hp.ne i' s1 T1 z1 n1 j s2 T2 z2 n2 h1 h2 hij hL1 hL2
            · intro j f p F hj hLj
              rw [updL_far _ (fun e => by subst e; rw [hk] at hj; cases hj)] at hLj
              obtain ⟨g1, g2⟩ := hp.lt j p F hj hLj
              exact ⟨g1, stab_use (hstab _ (kind_mem hj (by simp))) (Kept.of_below hbw) (fun b' e => by subst e; exact hbw.block b' (hp.gr j b' _ _ hj).1) g2⟩
          · rw [← sw', sw, hw] at hw'; cases hw'
      | init al =>
        rw [hk] at hy
        obtain ⟨T, z, n, hal⟩ := kind_tied2 htied hk
        have hLal : L al = true := hdep al (kind_tied htied hal).2
        have hbox : ∀ β, Part ks ops w V L β a w' → ∃ b, β al = .pointer (some ⟨b, 0, none⟩) ∧ w.heap.size ≤ b ∧ Blk w' b T z := fun β hp => by
          obtain ⟨b, g1, g2, g3⟩ := hp.al al i T z n hal hLal
          rw [hLi] at g3
          exact ⟨b, g1, g2, by simpa using g3⟩
        obtain ⟨b, hb1, hb2, hb3⟩ := hbox β0 (hP β0 h0 (fun _ _ => rfl))
        obtain ⟨w2, hr, hR0⟩ := hy.2 i T z n hal b w' hb1 (hfacts β0 h0 (fun _ _ => rfl)) hb3
        rw [hr]
        refine ⟨by rw [put_defers, hd], by rw [put_size, hs], ⟨hR0.os.trans hon.os, hR0.tape.trans hon.tape, hR0.output.trans hon.output, by rw [hR0.size]; exact hon.size, fun k hk' hS => (hR0.far k (by omega)).trans (hon.block k hk' hS)⟩, hnone undef, β0, h0, fun β hβ hag => ?_⟩
        have hag' := hagree β hag
        have hp := hP β hβ hag'
        have hβal : β al = .pointer (some ⟨b, 0, none⟩) := by rw [hag' al hLal]; exact hb1
        obtain ⟨hrun', _⟩ := hV β hβ
        obtain ⟨se', sw'⟩ := hsame β hβ hag'
        rcases hrun' i o ho with ⟨_, hy'⟩ | ⟨hw', _, _⟩
        · rw [hk] at hy'
          obtain ⟨w3, hr', hR⟩ := hy'.2 i T z n hal b w' hβal (hfacts β hβ hag') hb3
          rw [← se', se, hr] at hr'
          injection hr' with _ hr'
          subst hr'
          refine ⟨hslot β undef hp hy'.1, ?_, ?_, ?_, ?_, hp.fr.step (Nat.le_of_eq hR.size.symm) (fun p F e => by rw [hk] at e; cases e), fun j b' p F hj => by
            obtain ⟨g1, g2⟩ := hp.gr j b' p F hj
            have hlt : b' < w.heap.size := hstart _ (kind_mem hj (by simp))
            exact ⟨by rw [hR.size]; exact g1, fun hL => (hR.far b' (by omega)).trans (g2 (updL_false hL).2)⟩, fun j b' hj => by
            obtain ⟨g1, g2, g3⟩ := hp.sm j b' hj
            have hlt : b' < w.heap.size := hstart _ (kind_mem hj (by simp))
            exact ⟨by rw [hR.size]; exact g1, fun hL => (hR.far b' (by omega)).trans (g2 (fun k hk => (updL_false (hL k hk)).2)), (congrArg shp (hR.far b' (by omega))).trans g3⟩⟩
          · intro j b' T' old' new' hj
            rw [updL_far _ (fun e => by subst e; rw [hk] at hj; cases hj)]
            have := stlt j b' T' old' new' hj
            exact (hR.far b' (by omega)).trans (hp.st j b' T' old' new' hj)
          · intro j s' T' z' n' hj hLj
            have hji : j ≠ i := fun e => by subst e; rw [hk] at hj; cases hj
            rw [updL_far _ hji] at hLj
            by_cases e : j = al
            · subst e
              rw [hal] at hj
              injection hj with e1 e2 e3 e4
              subst e1 e2 e3 e4
              refine ⟨b, hβal, hb2, ?_⟩
              rw [updL_here, if_pos rfl]
              exact hR.here
            · obtain ⟨b', g1, g2, g3⟩ := hp.al j s' T' z' n' hj hLj
              have hbb : b' ≠ b := fun e' => hp.ne j s' T' z' n' al i T z n hj hal e hLj hLal (by rw [g1, hβal, e'])
              rw [updL_far _ (fun e' => by
                subst e'
                have := (kind_tied htied hj).1
                rw [hk] at this
                injection this with this
                exact e this.symm)]
              exact ⟨b', g1, g2, (hR.far b' hbb).trans g3⟩
          · intro i' s1 T1 z1 n1 j s2 T2 z2 n2 h1 h2 hij hL1 hL2
            rw [updL_far _ (fun e => by subst e; rw [hk] at h1; cases h1)] at hL1
            rw [updL_far _ (fun e => by subst e; rw [hk] at h2; cases h2)] at hL2
            exact hp.ne i' s1 T1 z1 n1 j s2 T2 z2 n2 h1 h2 hij hL1 hL2
          · intro j f p F hj hLj
            rw [updL_far _ (fun e => by subst e; rw [hk] at hj; cases hj)] at hLj
            obtain ⟨g1, g2⟩ := hp.lt j p F hj hLj
            refine ⟨g1, stab_use (hstab _ (kind_mem hj (by simp))) ⟨by rw [hR.size]; exact Nat.le_refl _, fun k _ _ hno => hR.far k (fun e => ?_)⟩ (fun b' e => by subst e; have hlt : b' < w.heap.size := hstart _ (kind_mem hj (by simp)); exact hR.far b' (by omega)) g2⟩
            subst e
            exact hno z T (0, 0) hb3 (by unfold boxes; exact List.mem_filterMap.2 ⟨_, kind_mem hal (by simp), rfl⟩)
        · rw [← sw', sw, hw] at hw'; cases hw'
      | smear b =>
        rw [hk] at hy
        obtain ⟨w2, hr, hg, hsh⟩ := hy.2 w' (hfacts β0 h0 (fun _ _ => rfl))
        rw [hr]
        have hbs : b ∈ stores ks := List.mem_filterMap.2 ⟨_, kind_mem hk (by simp), rfl⟩
        have hbl : b < w.heap.size := hstart _ (kind_mem hk (by simp))
        have ap : ∀ j k', kindOf ks j = k' → k' ≠ .val → j ≠ i → apartK (.smear b) k' := fun j k' hj hv hji =>
          pair_mem (R := fun (x y : Nat × Kind) => apartK x.2 y.2) (fun x y h => apartK_symm _ _ h) hapart (kind_mem hk (by simp)) (kind_mem hj hv) (fun e' => hji (by injection e' with e1; exact e1.symm))
        have keep : ∀ k, k < w'.heap.size → k ≠ b → w2.heap[k]? = w'.heap[k]? := fun k hk' hne => hg.block k hk' (fun e => hne (Option.some.inj e))
        refine ⟨by rw [put_defers, hd], by rw [put_size, hs], ⟨hg.os.trans hon.os, hg.tape.trans hon.tape, hg.output.trans hon.output, Nat.le_trans hon.size hg.size, fun k hk' hS => (keep k (Nat.lt_of_lt_of_le hk' hon.size) (fun e => hS (e ▸ hbs))).trans (hon.block k hk' hS)⟩, hnone undef, β0, h0, fun β hβ hag => ?_⟩
        have hag' := hagree β hag
        have hp := hP β hβ hag'
        obtain ⟨hrun', _⟩ := hV β hβ
        obtain ⟨se', sw'⟩ := hsame β hβ hag'
        rcases hrun' i o ho with ⟨_, hy'⟩ | ⟨hw', _, _⟩
        · rw [hk] at hy'
          refine ⟨hslot β undef hp hy'.1, ?_, ?_, ?_, ?_, hp.fr.step hg.size (fun p F e => by rw [hk] at e; cases e), ?_, ?_⟩
          · intro j b' T old new hj
            have hji : j ≠ i := fun e => by subst e; rw [hk] at hj; cases hj
            rw [updL_far _ hji]
            have hne : b ≠ b' := ap j _ hj (by simp) hji
            have h3 := hp.st j b' T old new hj
            exact (keep b' (Blk.lt h3) (Ne.symm hne)).trans h3
          · intro j s T z n hj hLj
            have e : j ≠ i := fun e => by subst e; rw [hk] at hj; cases hj
            have e2 : s ≠ i := fun e => by subst e; have := (kind_tied htied hj).1; rw [hk] at this; cases this
            rw [updL_far _ e] at hLj
            rw [updL_far _ e2]
            obtain ⟨b', g1, g2, g3⟩ := hp.al j s T z n hj hLj
            exact ⟨b', g1, g2, (keep b' g3.lt (by omega)).trans g3⟩
          · intro i' s1 T1 z1 n1 j s2 T2 z2 n2 h1 h2 hij hL1 hL2
            rw [updL_far _ (fun e => by subst e; rw [hk] at h1; cases h1)] at hL1
            rw [updL_far _ (fun e => by subst e; rw [hk] at h2; cases h2)] at hL2
            exact hp.ne i' s1 T1 z1 n1 j s2 T2 z2 n2 h1 h2 hij hL1 hL2
          · intro j f p F hj hLj
            have hji : j ≠ i := fun e => by subst e; rw [hk] at hj; cases hj
            rw [updL_far _ hji] at hLj
            obtain ⟨g1, g2⟩ := hp.lt j p F hj hLj
            refine ⟨g1, stab_use (hstab _ (kind_mem hj (by simp))) ⟨hg.size, fun k hk' hge _ => keep k hk' (by omega)⟩ (fun b' e => ?_) g2⟩
            subst e
            have hne : b ≠ b' := ap j _ hj (by simp) hji
            exact keep b' (hp.gr j b' p F hj).1 (Ne.symm hne)
          · intro j b' p F hj
            have hji : j ≠ i := fun e => by subst e; rw [hk] at hj; cases hj
            obtain ⟨g1, g2⟩ := hp.gr j b' p F hj
            have hne : b ≠ b' := ap j _ hj (by simp) hji
            exact ⟨Nat.lt_of_lt_of_le g1 hg.size, fun hL => (keep b' g1 (Ne.symm hne)).trans (g2 (updL_false hL).2)⟩
          · intro j b' hj
            obtain ⟨g1, g2, g3⟩ := hp.sm j b' hj
            refine ⟨Nat.lt_of_lt_of_le g1 hg.size, fun hL => ?_, ?_⟩
            · by_cases e : b' = b
              · subst e
                have := hL i hk
                rw [updL_here] at this
                cases this
              · exact (keep b' g1 e).trans (g2 (fun k hk => (updL_false (hL k hk)).2))
            · by_cases e : b' = b
              · subst e
                exact hsh.trans g3
              · exact (congrArg shp (keep b' g1 e)).trans g3
        · rw [← sw', sw, hw] at hw'; cases hw'
      | letterB fr p F =>
        rw [hk] at hy
        rcases hy.2 w' (hfacts β0 h0 (fun _ _ => rfl)) with ⟨f, args, hr, hc⟩ | ⟨u, w2, hr, hpu, hFu, hb, hfr⟩
        · rw [hr]
          refine Calls.mono hc fun e w2 ⟨u, he, hpu, hFu, hb, hfr⟩ => ?_
          subst he
          refine ⟨by rw [put_defers, hd], by rw [put_size, hs], hon.next hb, hnone _, updV β0 i u, fun j => ?_, fun β hβ hag => ?_⟩
          · by_cases e : j = i
            · subst e
              rw [hk]
              show p _
              rw [updV_here]
              exact hpu
            · have := h0 j
              cases hkj : kindOf ks j with
              | alloc s' T' z' n' => rw [hkj] at this; obtain ⟨b', g1, g2⟩ := this; exact ⟨b', by rw [updV_far _ _ e]; exact g1, g2⟩
              | letterB f' p' F' => rw [hkj] at this; show p' _; rw [updV_far _ _ e]; exact this
              | _ => exact trivial
          · have hβi : β i = u := by rw [hag i (updL_here _ _), updV_here]
            have hag' : ∀ j, L j = true → β j = β0 j := fun j hj => by
              have e : j ≠ i := fun e => by subst e; rw [hLi] at hj; cases hj
              rw [hag j (by rw [updL_far _ e]; exact hj), updV_far _ _ e]
            have hp := hP β hβ hag'
            obtain ⟨hrun', _⟩ := hV β hβ
            obtain ⟨_, sw'⟩ := hsame β hβ hag'
            rcases hrun' i o ho with ⟨_, hy'⟩ | ⟨hw', _, _⟩
            · rw [hk] at hy'
              refine ⟨hslot β _ hp (hy'.1.trans hβi), ?_, ?_, ?_, ?_, freshStep hp.fr hb.size hk (by rw [hβi]; exact hfr), fun j b' q G hj => (let ⟨g1, g2⟩ := hp.gr j b' q G hj; ⟨Nat.lt_of_lt_of_le g1 hb.size, fun hL => (hb.block b' g1).trans (g2 (updL_false hL).2)⟩), fun j b' hj => (let ⟨g1, g2, g3⟩ := hp.sm j b' hj; ⟨Nat.lt_of_lt_of_le g1 hb.size, fun hL => (hb.block b' g1).trans (g2 (fun k hk => (updL_false (hL k hk)).2)), (congrArg shp (hb.block b' g1)).trans g3⟩)⟩
              · intro j b' T' old' new' hj
                rw [updL_far _ (fun e => by subst e; rw [hk] at hj; cases hj)]
                exact (hp.st j b' T' old' new' hj).next hb
              · intro j s' T' z' n' hj hLj
                rw [updL_far _ (fun e => by subst e; rw [hk] at hj; cases hj)] at hLj
                obtain ⟨b', g1, g2, g3⟩ := hp.al j s' T' z' n' hj hLj
                rw [updL_far _ (fun e => by subst e; have := (kind_tied htied hj).1; rw [hk] at this; cases this)]
                exact ⟨b', g1, g2, g3.next hb⟩
              · intro i' s1 T1 z1 n1 j s2 T2 z2 n2 h1 h2 hij hL1 hL2
                rw [updL_far _ (fun e => by subst e; rw [hk] at h1; cases h1)] at hL1
                rw [updL_far _ (fun e => by subst e; rw [hk] at h2; cases h2)] at hL2
                exact hp.ne i' s1 T1 z1 n1 j s2 T2 z2 n2 h1 h2 hij hL1 hL2
              · intro j f' p' F' hj hLj
                by_cases e : j = i
                · subst e
                  rw [hk] at hj
                  injection hj with e0 e1 e2
                  subst e0 e1 e2
                  rw [hβi]
                  exact ⟨hpu, hFu⟩
                · rw [updL_far _ e] at hLj
                  obtain ⟨g1, g2⟩ := hp.lt j p' F' hj hLj
                  exact ⟨g1, stab_use (hstab _ (kind_mem hj (by simp))) (Kept.of_below hb) (fun b' e => by subst e; exact hb.block b' (hp.gr j b' _ _ hj).1) g2⟩
            · rw [← sw', sw, hw] at hw'; cases hw'
        · rw [hr]
          have hM : MildK ks ops i w w' w2 := by
            rcases hb with hb | hb | ⟨b, eb, hb⟩
            · exact ⟨fun h => h.next hb, fun j b T old new _ cs h => h.next hb, fun j s T z n _ b cs _ h => h.next hb, fun j f p F hj _ _ v h => stab_use (hstab _ (kind_mem hj (by simp))) (Kept.of_below hb) (fun b' e => by subst e; have hlt : b' < w.heap.size := hstart _ (kind_mem hj (by simp)); exact hb.block b' (Nat.lt_of_lt_of_le hlt hon.size)) h, hb.size, fun j b p F _ _ hlt => hb.block b hlt, fun j b _ hlt => hb.block b hlt⟩
            · exact hb
            · subst eb
              have hbs : b ∈ stores ks := List.mem_filterMap.2 ⟨_, kind_mem hk (by simp), rfl⟩
              have hbl : b < w.heap.size := hstart _ (kind_mem hk (by simp))
              have ap : ∀ j k', kindOf ks j = k' → k' ≠ .val → j ≠ i → apartK (.letterB (.grow b) p F) k' := fun j k' hj hv hji =>
                pair_mem (R := fun (x y : Nat × Kind) => apartK x.2 y.2) (fun x y h => apartK_symm _ _ h) hapart (kind_mem hk (by simp)) (kind_mem hj hv) (fun e' => hji (by injection e' with e1; exact e1.symm))
              refine ⟨fun h => ⟨hb.os.trans h.os, hb.tape.trans h.tape, hb.output.trans h.output, Nat.le_trans h.size hb.size, fun k hk' hS => (hb.block k (Nat.lt_of_lt_of_le hk' h.size) (fun e => by injection e with e; exact hS (e ▸ hbs))).trans (h.block k hk' hS)⟩, ?_, ?_, ?_, hb.size, ?_, ?_⟩
              · intro j b' T old new hj cs h
                have hne : b ≠ b' := ap j _ hj (by simp) (fun e => by subst e; rw [hk] at hj; cases hj)
                exact (hb.block b' h.lt (fun e => hne (by injection e with e; exact e.symm))).trans h
              · intro j s T z n _ b' cs hge h
                exact (hb.block b' h.lt (fun e => by injection e with e; omega)).trans h
              · intro j f q G hj hji _ v h
                exact stab_use (hstab _ (kind_mem hj (by simp))) ⟨hb.size, fun k hk' hge _ => hb.block k hk' (fun e => by injection e with e; omega)⟩ (fun b' e => by
                  subst e
                  have hlt : b' < w.heap.size := hstart _ (kind_mem hj (by simp))
                  have hne : b ≠ b' := ap j _ hj (by simp) hji
                  exact hb.block b' (Nat.lt_of_lt_of_le hlt hon.size) (fun e => hne (by injection e with e; exact e.symm))) h
              · intro j b' q G hj hji hlt
                have hne : b ≠ b' := ap j _ hj (by simp) hji
                exact hb.block b' hlt (fun e => hne (by injection e with e; exact e.symm))
              · intro j b' hj hlt
                have hne : b ≠ b' := ap j _ hj (by simp) (fun e => by subst e; exact absurd (hk.symm.trans hj) (by simp))
                exact hb.block b' hlt (fun e => hne (by injection e with e; exact e.symm))
          refine ⟨by rw [put_defers, hd], by rw [put_size, hs], hM.only hon, hnone _, updV β0 i u, fun j => ?_, fun β hβ hag => ?_⟩
          · by_cases e : j = i
            · subst e
              rw [hk]
              show p _
              rw [updV_here]
              exact hpu
            · have := h0 j
              cases hkj : kindOf ks j with
              | alloc s' T' z' n' => rw [hkj] at this; obtain ⟨b', g1, g2⟩ := this; exact ⟨b', by rw [updV_far _ _ e]; exact g1, g2⟩
              | letterB f' p' F' => rw [hkj] at this; show p' _; rw [updV_far _ _ e]; exact this
              | _ => exact trivial
          · have hβi : β i = u := by rw [hag i (updL_here _ _), updV_here]
            have hag' : ∀ j, L j = true → β j = β0 j := fun j hj => by
              have e : j ≠ i := fun e => by subst e; rw [hLi] at hj; cases hj
              rw [hag j (by rw [updL_far _ e]; exact hj), updV_far _ _ e]
            have hp := hP β hβ hag'
            obtain ⟨hrun', _⟩ := hV β hβ
            obtain ⟨_, sw'⟩ := hsame β hβ hag'
            rcases hrun' i o ho with ⟨_, hy'⟩ | ⟨hw', _, _⟩
            · rw [hk] at hy'
              refine ⟨hslot β _ hp (hy'.1.trans hβi), ?_, ?_, ?_, ?_, freshStep hp.fr hM.size hk (by rw [hβi]; exact hfr), fun j b' q G hj => (let ⟨g1, g2⟩ := hp.gr j b' q G hj; ⟨Nat.lt_of_lt_of_le g1 hM.size, fun hL => (hM.gr j b' q G hj (updL_false hL).1 g1).trans (g2 (updL_false hL).2)⟩), fun j b' hj => (let ⟨g1, g2, g3⟩ := hp.sm j b' hj; ⟨Nat.lt_of_lt_of_le g1 hM.size, fun hL => (hM.sm j b' hj g1).trans (g2 (fun k hk => (updL_false (hL k hk)).2)), (congrArg shp (hM.sm j b' hj g1)).trans g3⟩)⟩
              · intro j b' T' old' new' hj
                rw [updL_far _ (fun e => by subst e; rw [hk] at hj; cases hj)]
                exact hM.st j b' T' old' new' hj _ (by have := hp.st j b' T' old' new' hj; exact this)
              · intro j s' T' z' n' hj hLj
                rw [updL_far _ (fun e => by subst e; rw [hk] at hj; cases hj)] at hLj
                obtain ⟨b', g1, g2, g3⟩ := hp.al j s' T' z' n' hj hLj
                rw [updL_far _ (fun e => by subst e; have := (kind_tied htied hj).1; rw [hk] at this; cases this)]
                exact ⟨b', g1, g2, hM.al j s' T' z' n' hj _ _ g2 g3⟩
              · intro i' s1 T1 z1 n1 j s2 T2 z2 n2 h1 h2 hij hL1 hL2
                rw [updL_far _ (fun e => by subst e; rw [hk] at h1; cases h1)] at hL1
                rw [updL_far _ (fun e => by subst e; rw [hk] at h2; cases h2)] at hL2
                exact hp.ne i' s1 T1 z1 n1 j s2 T2 z2 n2 h1 h2 hij hL1 hL2
              · intro j f' p' F' hj hLj
                by_cases e : j = i
                · subst e
                  rw [hk] at hj
                  injection hj with e0 e1 e2
                  subst e0 e1 e2
                  rw [hβi]
                  exact ⟨hpu, hFu⟩
                · rw [updL_far _ e] at hLj
                  obtain ⟨g1, g2⟩ := hp.lt j p' F' hj hLj
                  exact ⟨g1, hM.lt j p' F' hj e (by
                    rcases hd' : dep ops j i with _ | _
                    · rfl
                    · rw [hneg j hd'] at hLj; cases hLj) _ g2⟩
            · rw [← sw', sw, hw] at hw'; cases hw'
    · rw [if_neg (by rw [sw, hw]; simp)]
      refine grown undef w' (.inl hk) (Below.refl _ _) fun β hβ hag => ?_
      obtain ⟨hrun', _⟩ := hV β hβ
      obtain ⟨_, sw'⟩ := hsame β hβ hag
      rcases hrun' i o ho with ⟨hw', _⟩ | ⟨_, _, hv'⟩
      · rw [← sw', sw, hw] at hw'; cases hw'
      · exact hv'
end Go.Proofs.YtfnamfkjbkhgeaaGreatDoor

namespace Go.Proofs.YtfnamfkjbkhgeaaGreatDoor

open Go Go.RowKit

section

variable {P : Program} {ks : Kinds} {ops : Array Oper} {wr : World} {β : Nat → Value} {Fin : Act → Prop} {i : Nat} {o : Oper} {rest : List Oper} {a : Act}

theorem lex_nil (h : Fin a) : Lex P ks ops wr β Fin i [] a := h
theorem lex_val {v : Value} (hk : kindOf ks i = .val) (hw : Region.wanted o (yielded ops a.tmps) = true) (h : ∀ w, Facts ks ops wr β i w → (execOp a.eval o).run P w = .ok (.value v) w)
    (hr : Lex P ks ops wr β Fin (i + 1) rest (a.put o.dst v)) : Lex P ks ops wr β Fin i (o :: rest) a := .inl ⟨hw, v, by rw [hk]; exact h, hr⟩
theorem lex_skip (hk : kindOf ks i = .val) (hw : Region.wanted o (yielded ops a.tmps) = false) (hr : Lex P ks ops wr β Fin (i + 1) rest (a.put o.dst undef)) : Lex P ks ops wr β Fin i (o :: rest) a := .inr ⟨hw, hk, hr⟩
theorem lex_call {u : Value} (hk : kindOf ks i = .call u) (hw : Region.wanted o (yielded ops a.tmps) = true) {f : FuncId} {args : Array Value} (hx : ∀ w, Facts ks ops wr β i w → (execOp a.eval o).run P w = .ok (.enter f args) w)
    (h : ∀ w, Facts ks ops wr β i w → Calls P f args w fun e w' => e = .returned u ∧ Below w.heap.size w w')
    (hr : Lex P ks ops wr β Fin (i + 1) rest (a.put o.dst u)) : Lex P ks ops wr β Fin i (o :: rest) a := .inl ⟨hw, u, by rw [hk]; exact ⟨rfl, fun w hf => ⟨f, args, hx w hf, h w hf⟩⟩, hr⟩
theorem lex_letter {p : Value → Prop} {F : Value → World → Prop} (hk : kindOf ks i = .letter p F) (hw : Region.wanted o (yielded ops a.tmps) = true) {f : FuncId} {args : Array Value} (hx : ∀ w, Facts ks ops wr β i w → (execOp a.eval o).run P w = .ok (.enter f args) w)
    (h : ∀ w, Facts ks ops wr β i w → Calls P f args w fun e w' => ∃ u, e = .returned u ∧ p u ∧ F u w' ∧ Below w.heap.size w w')
    (hr : Lex P ks ops wr β Fin (i + 1) rest (a.put o.dst (β i))) : Lex P ks ops wr β Fin i (o :: rest) a := .inl ⟨hw, β i, by rw [hk]; exact ⟨rfl, fun w hf => .inl ⟨f, args, hx w hf, (h w hf).mono fun _ _ ⟨u, h1, h2, h3, h4⟩ => ⟨u, h1, h2, h3, h4, fun e => by cases e⟩⟩⟩, hr⟩
/-- A call whose answer is of memory that nobody had. -/
theorem lex_fresh {p : Value → Prop} {F : Value → World → Prop} (hk : kindOf ks i = .fresh p F) (hw : Region.wanted o (yielded ops a.tmps) = true) {f : FuncId} {args : Array Value} (hx : ∀ w, Facts ks ops wr β i w → (execOp a.eval o).run P w = .ok (.enter f args) w)
    (h : ∀ w, Facts ks ops wr β i w → Calls P f args w fun e w' => ∃ u, e = .returned u ∧ p u ∧ F u w' ∧ Below w.heap.size w w' ∧ ∀ b ∈ blksOf u, w.heap.size ≤ b ∧ b < w'.heap.size)
    (hr : Lex P ks ops wr β Fin (i + 1) rest (a.put o.dst (β i))) : Lex P ks ops wr β Fin i (o :: rest) a := .inl ⟨hw, β i, by rw [hk]; exact ⟨rfl, fun w hf => .inl ⟨f, args, hx w hf, (h w hf).mono fun _ _ ⟨u, h1, h2, h3, h4, h5⟩ => ⟨u, h1, h2, h3, h4, fun _ => h5⟩⟩⟩, hr⟩
/-- An operation that makes memory of its own, and is no call: its answer is a letter. -/
theorem lex_made {p : Value → Prop} {F : Value → World → Prop} (hk : kindOf ks i = .letter p F) (hw : Region.wanted o (yielded ops a.tmps) = true)
    (h : ∀ w, Facts ks ops wr β i w → ∃ u w', (execOp a.eval o).run P w = .ok (.value u) w' ∧ p u ∧ F u w' ∧ Below w.heap.size w w')
    (hr : Lex P ks ops wr β Fin (i + 1) rest (a.put o.dst (β i))) : Lex P ks ops wr β Fin i (o :: rest) a := .inl ⟨hw, β i, by rw [hk]; exact ⟨rfl, fun w hf => .inr (let ⟨u, w', h1, h2, h3, h4⟩ := h w hf; ⟨u, w', h1, h2, h3, .inl h4, fun e => by cases e⟩)⟩, hr⟩
/-- An operation that uses up what it grows. -/
theorem lex_mild {p : Value → Prop} {F : Value → World → Prop} (hk : kindOf ks i = .letter p F) (hw : Region.wanted o (yielded ops a.tmps) = true)
    (h : ∀ w, Facts ks ops wr β i w → ∃ u w', (execOp a.eval o).run P w = .ok (.value u) w' ∧ p u ∧ F u w' ∧ MildK ks ops i wr w w')
    (hr : Lex P ks ops wr β Fin (i + 1) rest (a.put o.dst (β i))) : Lex P ks ops wr β Fin i (o :: rest) a := .inl ⟨hw, β i, by rw [hk]; exact ⟨rfl, fun w hf => .inr (let ⟨u, w', h1, h2, h3, h4⟩ := h w hf; ⟨u, w', h1, h2, h3, .inr (.inl h4), fun e => by cases e⟩)⟩, hr⟩
/-- A store into an old block of which nothing more is asked. -/
theorem lex_smear {b : Nat} (hk : kindOf ks i = .smear b) (hw : Region.wanted o (yielded ops a.tmps) = true)
    (h : ∀ w, Facts ks ops wr β i w → ∃ w', (execOp a.eval o).run P w = .ok .skip w' ∧ w.grownBy w' (some b) ∧ shp w'.heap[b]? = shp w.heap[b]?)
    (hr : Lex P ks ops wr β Fin (i + 1) rest (a.put o.dst undef)) : Lex P ks ops wr β Fin i (o :: rest) a := .inl ⟨hw, undef, by rw [hk]; exact ⟨rfl, h⟩, hr⟩
/-- An operation that grows what lies in an old block. -/
theorem lex_grow {b : Nat} {p : Value → Prop} {F : Value → World → Prop} (hk : kindOf ks i = .grow b p F) (hw : Region.wanted o (yielded ops a.tmps) = true)
    (h : ∀ w, Facts ks ops wr β i w → ∃ u w', (execOp a.eval o).run P w = .ok (.value u) w' ∧ p u ∧ F u w' ∧ w.grownBy w' (some b))
    (hr : Lex P ks ops wr β Fin (i + 1) rest (a.put o.dst (β i))) : Lex P ks ops wr β Fin i (o :: rest) a := .inl ⟨hw, β i, by rw [hk]; exact ⟨rfl, fun w hf => .inr (let ⟨u, w', h1, h2, h3, h4⟩ := h w hf; ⟨u, w', h1, h2, h3, .inr (.inr ⟨b, rfl, h4⟩), fun e => by cases e⟩)⟩, hr⟩
theorem lex_store {b : Nat} {T : TypeId} {old : Array Value} {new : (Nat → Value) → Array Value} (hk : kindOf ks i = .store b T old new) (hw : Region.wanted o (yielded ops a.tmps) = true)
    (h : ∀ w, Facts ks ops wr β i w → Blk w b T old → ∃ w', (execOp a.eval o).run P w = .ok .skip w' ∧ Repl w w' b T (new β))
    (hr : Lex P ks ops wr β Fin (i + 1) rest (a.put o.dst undef)) : Lex P ks ops wr β Fin i (o :: rest) a := .inl ⟨hw, undef, by rw [hk]; exact ⟨rfl, h⟩, hr⟩
theorem lex_alloc {s : Nat} {T : TypeId} {zero : Array Value} {new : (Nat → Value) → Array Value} (hk : kindOf ks i = .alloc s T zero new) (hw : Region.wanted o (yielded ops a.tmps) = true)
    (h : ∀ w : World, (execOp a.eval o).run P w = .ok (.value (.pointer (some ⟨w.heap.size, 0, none⟩))) (w.alloc (.cells zero T)))
    (hr : Lex P ks ops wr β Fin (i + 1) rest (a.put o.dst (β i))) : Lex P ks ops wr β Fin i (o :: rest) a := .inl ⟨hw, β i, by rw [hk]; exact ⟨rfl, h⟩, hr⟩
theorem lex_init {al : Nat} {T : TypeId} {zero : Array Value} {new : (Nat → Value) → Array Value} (hk : kindOf ks i = .init al) (hal : kindOf ks al = .alloc i T zero new) (hw : Region.wanted o (yielded ops a.tmps) = true)
    (h : ∀ b w, β al = .pointer (some ⟨b, 0, none⟩) → Facts ks ops wr β i w → Blk w b T zero → ∃ w', (execOp a.eval o).run P w = .ok .skip w' ∧ Repl w w' b T (new β))
    (hr : Lex P ks ops wr β Fin (i + 1) rest (a.put o.dst undef)) : Lex P ks ops wr β Fin i (o :: rest) a := .inl ⟨hw, undef, by
      rw [hk]
      refine ⟨rfl, fun s T' zero' new' hal' => ?_⟩
      rw [hal] at hal'
      injection hal' with e1 e2 e3 e4
      subst e1 e2 e3 e4
      exact h, hr⟩
/-- The letters are as they may be. -/
theorem ok_all {w : World} (h : ∀ x ∈ ks, okK w β x.1 x.2) (i : Nat) : okK w β i (kindOf ks i) := by
  cases hk : kindOf ks i with
  | val => exact trivial
  | call v => exact trivial
  | store b T o n => exact trivial
  | init al => exact trivial
  | smear b => exact trivial
  | alloc s T z n => exact h _ (kind_mem hk (by simp))
  | letterB f p F => exact h _ (kind_mem hk (by simp))
/-- A store of some cells, one behind the other. -/
theorem repl2 {w : World} {b : Nat} {T : TypeId} {cs : Array Value} (h : Blk w b T cs) (u v : Value) : Repl w ((w.setCell ⟨b, 0, none⟩ u).setCell ⟨b, 1, none⟩ v) b T ((cs.setIfInBounds 0 u).setIfInBounds 1 v) :=
  (Repl.set h 0 u).trans (Repl.set (h.set_ 0 u) 1 v)
theorem repl4 {w : World} {b : Nat} {T : TypeId} {cs : Array Value} (h : Blk w b T cs) (u v x y : Value) : Repl w ((((w.setCell ⟨b, 0, none⟩ u).setCell ⟨b, 1, none⟩ v).setCell ⟨b, 2, none⟩ x).setCell ⟨b, 3, none⟩ y) b T ((((cs.setIfInBounds 0 u).setIfInBounds 1 v).setIfInBounds 2 x).setIfInBounds 3 y) :=
  (repl2 h u v).trans ((Repl.set ((h.set_ 0 u).set_ 1 v) 2 x).trans (Repl.set (((h.set_ 0 u).set_ 1 v).set_ 2 x) 3 y))
end

theorem wp_region_mix_lit {P : Program} {id : Nat} {l : List Oper} {a0 : Act} {w : World} {Q : Exit → Act → World → Prop} (hm : P.follows .mixedOrders = true) (ks : Kinds)
    (htext : textOk l.toArray = true) (htied : tiedK l.toArray ks = true) (hslots : slotsOk l.toArray a0.tmps.size = true) (hkeys : ks.all (fun x => decide (x.1 < l.toArray.size)) = true)
    (hapart : ks.Pairwise fun x y => apartK x.2 y.2) (hstart : ∀ x ∈ ks, startK w x.2) (hstab : ∀ x ∈ ks, stabK ks w x.2)
    (hok : ∃ β, ∀ x ∈ ks, okK w β x.1 x.2)
    (hwalk : ∀ β, (∀ i, okK w β i (kindOf ks i)) → Lex P ks l.toArray w β (fun a => ∀ w', AtEnd ks w β w' → Q .normal a w') 0 l a0) :
    (Code.region id l.toArray true).wp P Q a0 w :=
  wp_region_mix hm ks htext htied hslots hkeys hapart hstart hstab (let ⟨β, h⟩ := hok; ⟨β, ok_all h⟩) (fun β hβ => by simpa using hwalk β hβ)
end Go.Proofs.YtfnamfkjbkhgeaaGreatDoor

/-
  What a map of texts by numbers adds up to: plain facts on the datum that a map reads as.
  A store of macros: its map of texts, as the world holds it.
  A store of macros: a text is looked up; how many bytes are left.
  A store of macros: cleared, one put into it.
  A store of macros: how much room there is; what is taken; one is defined.
  A store of macros: cloned, held against another one.
  A store of macros: what the laws share.
-/
import Derived.Test.YtnbbepkkedhhgaaGreatDoorGen
import Derived.Maps.RangeWalk
import Derived.Maps.OwnSet
import Derived.WalkKit
import Derived.Lib.Hide
import Derived.Laws.IdiomRangeMap
import Derived.Test.YtnbbepkkedhhgaaGreatDoorMixE
import Derived.WalkSpells
import Derived.Test.YtnbbepkkedhhgaaGreatDoorMacF
import Derived.Test.YtnbbepkkedhhgaaGreatDoorShelfC
import Derived.Test.YtnbbepkkedhhgaaGreatDoorShelfM
import Derived.Laws.StructEq
import Derived.Deep.DeepCutAuto
import Derived.Deep.WholeRow
import Derived.Maps.Ext
import Derived.Lib.SlMapEqual
import Derived.Deep.OwnRows
namespace Go.Proofs.YtnbbepkkedhhgaaGreatDoor
open Go Go.RowKit Go.Maps

/-- A text's datum, as bytes. -/
def txL : DataW Unit → List UInt8
  | .lit (.string l) => l
  | _ => []
/-- How many bytes. -/
def dLen (d : DataW Unit) : Nat := (txL d).length
/-- All its bytes, added. -/
def dSum (d : DataW Unit) : Nat := ((txL d).map (·.toNat)).sum
/-- What the entries that 'left' names add up to. -/
def macL (f : DataW Unit → Nat) (left : Lit → Bool) (es : List (Lit × DataW Unit)) : Nat := ((es.filter (fun p => left p.1)).map (fun p => f p.2)).sum
def sumD (f : DataW Unit → Nat) (left : Lit → Bool) : DataW Unit → Nat
  | .map es => macL f left es
  | _ => 0
def allK : Lit → Bool := fun _ => true
def tot (D : DataW Unit) : Nat := sumD dLen allK D
def noTx : DataW Unit := .lit (.string [])

theorem macL_nil (f : DataW Unit → Nat) (left : Lit → Bool) : macL f left [] = 0 := rfl
theorem macL_cons (f : DataW Unit → Nat) (left : Lit → Bool) (p : Lit × DataW Unit) (es : List (Lit × DataW Unit)) : macL f left (p :: es) = (if left p.1 then f p.2 else 0) + macL f left es := by
  unfold macL
  by_cases h : left p.1 = true
  · simp [h]
  · simp [h]
theorem macL_congr (f : DataW Unit → Nat) {l1 l2 : Lit → Bool} : ∀ (es : List (Lit × DataW Unit)), (∀ p ∈ es, l1 p.1 = l2 p.1) → macL f l1 es = macL f l2 es
  | [], _ => rfl
  | p :: es, h => by rw [macL_cons, macL_cons, h p (by simp), macL_congr f es (fun q hq => h q (by simp [hq]))]
theorem macL_none (f : DataW Unit → Nat) {left : Lit → Bool} (h : ∀ k, left k = false) (es : List (Lit × DataW Unit)) : macL f left es = 0 := by
  induction es with
  | nil => rfl
  | cons p es ih => rw [macL_cons, ih, h p.1]; simp
theorem macL_insert (f : DataW Unit → Nat) (left : Lit → Bool) (x : Lit × DataW Unit) : ∀ es : List (Lit × DataW Unit), macL f left (DataW.insert x es) = (if left x.1 then f x.2 else 0) + macL f left es
  | [] => by unfold DataW.insert; rw [macL_cons, macL_nil]
  | y :: r => by
    unfold DataW.insert
    split
    · rw [macL_cons]
    · rw [macL_cons, macL_insert f left x r, macL_cons]; omega
/-- The entry at a key is part of the sum, if it is named. -/
theorem macL_step (f : DataW Unit → Nat) (left : Lit → Bool) (k : Lit) (hk : left k = true) (z : DataW Unit) (hz : f z = 0) : ∀ es : List (Lit × DataW Unit), es.Pairwise (fun p q => p.1 ≠ q.1) →
    macL f left es = f ((DataW.map es).atKey k z) + macL f (fun x => left x && !x.sameKey k) es
  | [], _ => by simp [macL_nil, DataW.atKey, hz]
  | p :: es, h => by
    obtain ⟨h1, h2⟩ := List.pairwise_cons.1 h
    have ih := macL_step f left k hk z hz es h2
    rw [macL_cons, macL_cons]
    cases hp : p.1.sameKey k
    · have e : (DataW.map (p :: es)).atKey k z = (DataW.map es).atKey k z := by simp [DataW.atKey, hp]
      rw [e, ih]
      simp only [Bool.not_false, Bool.and_true]
      omega
    · have e : (DataW.map (p :: es)).atKey k z = p.2 := by simp [DataW.atKey, hp]
      have e1 : p.1 = k := WideAt.sameKey_eq hp
      have e2 : macL f (fun x => left x && !x.sameKey k) es = macL f left es := macL_congr f es (fun q hq => by
        have : q.1.sameKey k = false := sameKey_ne (fun e2 => h1 q hq (e1.trans e2.symm))
        simp [this])
      rw [e, e1, hk, e2]
      simp
theorem macL_strike (f : DataW Unit → Nat) (k : Lit) (z : DataW Unit) (hz : f z = 0) (es : List (Lit × DataW Unit)) (h : es.Pairwise (fun p q => p.1 ≠ q.1)) :
    macL f allK (es.filter (fun p => !p.1.sameKey k)) + f ((DataW.map es).atKey k z) = macL f allK es := by
  rw [macL_step f allK k rfl z hz es h]
  have : macL f allK (es.filter (fun p => !p.1.sameKey k)) = macL f (fun x => allK x && !x.sameKey k) es := by
    unfold macL
    rw [List.filter_filter]
  omega
theorem sum_put (f : DataW Unit → Nat) {D : DataW Unit} (hD : Tidy D) (k : Lit) (z d : DataW Unit) (hz : f z = 0) : sumD f allK (D.put k d) + f (D.atKey k z) = sumD f allK D + f d := by
  obtain ⟨es, rfl, hp⟩ := hD
  show macL f allK (DataW.insert (k, d) (es.filter fun p => !p.1.sameKey k)) + f ((DataW.map es).atKey k z) = macL f allK es + f d
  rw [macL_insert]
  have := macL_strike f k z hz es hp
  simp only [allK, if_true] at *
  omega
theorem sum_del (f : DataW Unit → Nat) {D : DataW Unit} (hD : Tidy D) (k : Lit) (z : DataW Unit) (hz : f z = 0) : sumD f allK (D.del k) + f (D.atKey k z) = sumD f allK D := by
  obtain ⟨es, rfl, hp⟩ := hD
  exact macL_strike f k z hz es hp
theorem sum_at (f : DataW Unit → Nat) {D : DataW Unit} (hD : Tidy D) (k : Lit) (z : DataW Unit) (hz : f z = 0) : f (D.atKey k z) ≤ sumD f allK D := by
  have := sum_del f hD k z hz
  omega
/-- Ahead of a round over the map all are named. -/
theorem sum_start (f : DataW Unit → Nat) {D : DataW Unit} (hD : Tidy D) (hk : ∃ es, D = .map es ∧ ∀ p ∈ es, WideAt.IsKeyLit p.1) : sumD f (has D) D = sumD f allK D := by
  obtain ⟨es, rfl, hp⟩ := hD
  obtain ⟨es2, e, h2⟩ := hk
  injection e with e
  subst e
  exact macL_congr f es (fun p hm => by
    show es.any (fun q => q.1.sameKey p.1) = true
    rw [List.any_eq_true]
    exact ⟨p, hm, WideAt.sameKey_self (h2 p hm)⟩)
theorem sum_step (f : DataW Unit → Nat) {D : DataW Unit} (hD : Tidy D) (left : Lit → Bool) (k : Lit) (hk : left k = true) (z : DataW Unit) (hz : f z = 0) : sumD f left D = f (D.atKey k z) + sumD f (fun x => left x && !x.sameKey k) D := by
  obtain ⟨es, rfl, hp⟩ := hD
  exact macL_step f left k hk z hz es hp
theorem sum_end (f : DataW Unit → Nat) {D : DataW Unit} (left : Lit → Bool) (h : ∀ k, left k = false) : sumD f left D = 0 := by
  cases D <;> try rfl
  exact macL_none f h _
theorem sum_part (f : DataW Unit → Nat) (left : Lit → Bool) (D : DataW Unit) : sumD f left D ≤ sumD f allK D := by
  cases D <;> try exact Nat.le_refl _
  rename_i es
  show macL f left es ≤ macL f allK es
  induction es with
  | nil => exact Nat.le_refl _
  | cons p es ih => rw [macL_cons, macL_cons]; simp only [allK, if_true] at *; split <;> omega
end Go.Proofs.YtnbbepkkedhhgaaGreatDoor

namespace Go.Proofs.YtnbbepkkedhhgaaGreatDoor
open Go Go.RowKit Go.Maps
open Go.WideElems (Fit)

/-- How a text reads. -/
def Rt : Value → Option (DataW Unit × List MemPlace)
  | .agg cs => match cs.toList with
    | [.string s] => if s.size ≤ 6144 then some (.lit (.string s.data.toList), []) else none
    | _ => none
  | _ => none
theorem Rt_mk (s : ByteArray) (h : s.size ≤ 6144) : Rt (.agg #[.string s]) = some (.lit (.string s.data.toList), []) := by simp [Rt, h]
theorem Rt_inv {v : Value} {z : DataW Unit × List MemPlace} (h : Rt v = some z) : ∃ s : ByteArray, v = .agg #[.string s] ∧ z = (.lit (.string s.data.toList), []) ∧ s.size ≤ 6144 := by
  unfold Rt at h
  cases v <;> simp at h
  rename_i cs
  split at h
  · rename_i s hs
    split at h
    · rename_i h1
      injection h with h
      refine ⟨s, ?_, h.symm, h1⟩
      rw [← hs]
    · cases h
  · cases h
theorem Rt_shape (v : Value) (y : DataW Unit × List MemPlace) (h : Rt v = some y) : ∃ c : ByteArray, v = .agg #[.string c] := by
  obtain ⟨s, h1, _⟩ := Rt_inv h
  exact ⟨s, h1⟩

theorem keyZ : Keyed Tryz.prog 3 := int_keyed Tryz.underlying3
def kz (i : Int) : Lit := .int .i64 i
theorem kz_ne {i j : Int} (h : i ≠ j) : kz i ≠ kz j := fun e => h (by injection e)
theorem kz_key (i : Int) : WideAt.IsKeyLit (kz i) := trivial

/-- What a map that may be none reads as; none has nothing. -/
def MapOf (w : World) (m : Option Nat) (n : Nat) (D : DataW Unit) : Prop := (m = none ∧ D = .map []) ∨ ∃ b, m = some b ∧ w.ownsMap Tryz.prog 3 Rt b n D
/-- A store in a block: its one cell leads to the map. -/
def StoB (w : World) (S : Nat) (m : Option Nat) (n : Nat) (D : DataW Unit) : Prop := Blk w S 26 #[.map m] ∧ MapOf w m n D

theorem MapOf.tidy {w : World} {m : Option Nat} {n : Nat} {D : DataW Unit} (h : MapOf w m n D) : Tidy D := by
  rcases h with ⟨_, rfl⟩ | ⟨b, _, ho⟩
  · exact tidy_empty
  · exact ho.tidy keyZ
theorem MapOf.keys {w : World} {m : Option Nat} {n : Nat} {D : DataW Unit} (h : MapOf w m n D) : ∃ es, D = .map es ∧ ∀ p ∈ es, WideAt.IsKeyLit p.1 := by
  rcases h with ⟨_, rfl⟩ | ⟨b, _, ho⟩
  · exact ⟨[], rfl, by simp⟩
  · obtain ⟨es, e, _, h2⟩ := ho.entries keyZ
    exact ⟨es, e, h2⟩
theorem MapOf.kept {w w' : World} {m : Option Nat} {n : Nat} {D : DataW Unit} {row : Option Nat} (h : MapOf w m n D) (hg : w.grownBy w' row) (hne : m = none ∨ m ≠ row) : MapOf w' m n D := by
  rcases h with h | ⟨b, rfl, ho⟩
  · exact .inl h
  · exact .inr ⟨b, rfl, ho.kept hg (hne.resolve_left (by simp))⟩
theorem MapOf.lt {w : World} {b : Nat} {n : Nat} {D : DataW Unit} (h : MapOf w (some b) n D) : b < w.heap.size := by
  rcases h with ⟨h, _⟩ | ⟨b', e, ho⟩
  · cases h
  · cases e; exact ho.lt
theorem MapOf.next {w w' : World} {m : Option Nat} {n : Nat} {D : DataW Unit} (h : MapOf w m n D) (hb : Below w.heap.size w w') : MapOf w' m n D := by
  rcases h with h | ⟨b, rfl, ho⟩
  · exact .inl h
  · refine .inr ⟨b, rfl, ?_⟩
    have hlt := ho.lt
    obtain ⟨es, clock, hh, r⟩ := ho
    exact ⟨es, clock, (hb.block b hlt).trans hh, r⟩
theorem StoB.next {w w' : World} {S : Nat} {m : Option Nat} {n : Nat} {D : DataW Unit} (h : StoB w S m n D) (hb : Below w.heap.size w w') : StoB w' S m n D := ⟨h.1.next hb, h.2.next hb⟩
theorem StoB.apart {w : World} {S b n : Nat} {D : DataW Unit} (h : StoB w S (some b) n D) : b ≠ S := by
  rcases h.2 with ⟨e, _⟩ | ⟨b', e, ho⟩
  · cases e
  · cases e
    obtain ⟨es, clock, hh, _⟩ := ho
    intro e
    subst e
    have := h.1
    unfold Blk at this
    rw [hh] at this
    cases this

/-- 'clear(m)'. -/
theorem ownsMap_clear {w : World} {P : Program} {k e t : TypeId} {R : Value → Option (DataW Unit × List MemPlace)} {b n : Nat} {D : DataW Unit} (h : w.ownsMap P k R b n D) (ht : P.underlying t = some (.map k e)) (ty : TypeId) :
    ∃ w', (Builtin.clear_ #[t] ty #[.map (some b)]).run P w = .ok (.tuple #[]) w' ∧ w'.ownsMap P k R b n (.map []) ∧ w.mapTurned w' b := by
  obtain ⟨es, clock, hb, F, hs, rfl⟩ := h
  refine ⟨_, ?_, ⟨#[], clock, ChangeMaps.heap_setBlock_same hb _, ⟨by simp, MapKept.stamped_empty clock, by simp⟩, by simp, rfl⟩, ⟨es, clock, #[], clock, hb, rfl⟩⟩
  simp [Builtin.clear_, run_underlying ht, MapKept.run_getObj_map hb, MapKept.run_setObj_map _ hb, Result.andThen, ChangeMaps.setBlock]
theorem wpList_clear_own {P : Program} (w : World) {ops : Array Oper} {rest : List Oper} {o : Oper} {a : Act} {Q : Exit → Act → World → Prop}
    (hg : o.guard = none) (m : Operand) (t : TypeId) (hop : o.op = Op.call { callee := Callee.builtin Builtin.clear, args := #[m], argTypes := #[t] })
    (k e : TypeId) (ht : P.underlying t = some (.map k e)) (R : Value → Option (DataW Unit × List MemPlace)) (b n : Nat) (D : DataW Unit) (hm : a.eval m = .map (some b)) (hown : w.ownsMap P k R b n D)
    (hK : ∀ w', w'.ownsMap P k R b n (.map []) → w.mapTurned w' b → wpList P ops Q rest (a.put o.dst (.tuple #[])) w') :
    wpList P ops Q (o :: rest) a w := by
  refine wpList_plain hg fun K' hK' => ?_
  obtain ⟨w', hrun, r1, r2⟩ := ownsMap_clear hown ht o.type
  unfold Oper.wp
  simp [execOp, hop, resolve, invoke, builtin, hm, hrun, Result.andThen]
  exact hK' _ _ (hK w' r1 r2)
theorem clear_nil {w : World} {P : Program} {t k e : TypeId} (ht : P.underlying t = some (.map k e)) (ty : TypeId) : (Builtin.clear_ #[t] ty #[.map none]).run P w = .ok (.tuple #[]) w := by
  simp [Builtin.clear_, run_underlying ht, Result.andThen]
end Go.Proofs.YtnbbepkkedhhgaaGreatDoor

namespace Go.Proofs.YtnbbepkkedhhgaaGreatDoor
open Go Go.RowKit Go.Maps

/-- The text at a number; none is empty. -/
def txAt (D : DataW Unit) (i : Int) : ByteArray := ⟨(txL (D.atKey (kz i) noTx)).toArray⟩
theorem tx_size (D : DataW Unit) (i : Int) : (txAt D i).size = dLen (D.atKey (kz i) noTx) := by
  show (txL (D.atKey (kz i) noTx)).toArray.size = _
  simp [dLen]
theorem mapUnder : Tryz.prog.underlying 24 = some (.map 3 46) := by kernel_rfl
theorem zeroTx (w : World) : (zeroValue 46).run Tryz.prog w = .ok (.agg #[.string ⟨#[]⟩]) w := by kernel_rfl
theorem Rt_zero : Rt (.agg #[.string ⟨#[]⟩]) = some (noTx, []) := Rt_mk ⟨#[]⟩ (by decide)
theorem keyIs (i : Int) (hi : -9223372036854775808 ≤ i ∧ i ≤ 9223372036854775807) : keyOf Tryz.prog 3 (.int .i64 i) = some (kz i) := keyOf_int_mk Tryz.underlying3 (WalkArith.wf_i64 (by omega))
theorem Rt_at {v : Value} {D : DataW Unit} {i : Int} {ps : List MemPlace} (h : Rt v = some (D.atKey (kz i) noTx, ps)) : v = .agg #[.string (txAt D i)] ∧ D.atKey (kz i) noTx = .lit (.string (txAt D i).data.toList) ∧ (txAt D i).size ≤ 6144 := by
  obtain ⟨s, rfl, e, hs⟩ := Rt_inv h
  have e1 : D.atKey (kz i) noTx = .lit (.string s.data.toList) := congrArg Prod.fst e
  have e2 : txAt D i = s := by
    unfold txAt
    rw [e1]
    show (⟨s.data.toList.toArray⟩ : ByteArray) = s
    rw [Array.toArray_toList]
  rw [e2]
  exact ⟨rfl, e1, hs⟩
section
variable {w : World} {m : Option Nat} {n : Nat} {D : DataW Unit}
theorem MapOf.look (h : MapOf w m n D) (i : Int) (hi : -9223372036854775808 ≤ i ∧ i ≤ 9223372036854775807) :
    (Instr.lookup 24 (.map m) (.int .i64 i) false).run Tryz.prog w = .ok (.agg #[.string (txAt D i)]) w ∧ D.atKey (kz i) noTx = .lit (.string (txAt D i).data.toList) ∧ (txAt D i).size ≤ 6144 := by
  rcases h with ⟨rfl, rfl⟩ | ⟨b, rfl, ho⟩
  · exact ⟨look_nil false keyZ mapUnder (zeroTx w) (keyIs i hi), rfl, by show (0 : Nat) ≤ 6144; omega⟩
  · obtain ⟨v, ps, hrun, hv⟩ := ho.lookup keyZ mapUnder (zeroTx w) Rt_zero (keyIs i hi)
    obtain ⟨rfl, h1, h2⟩ := Rt_at hv
    exact ⟨hrun, h1, h2⟩
theorem MapOf.lookOk (h : MapOf w m n D) (i : Int) (hi : -9223372036854775808 ≤ i ∧ i ≤ 9223372036854775807) :
    (Instr.lookup 24 (.map m) (.int .i64 i) true).run Tryz.prog w = .ok (.tuple #[.agg #[.string (txAt D i)], .bool (has D (kz i))]) w := by
  rcases h with ⟨rfl, rfl⟩ | ⟨b, rfl, ho⟩
  · exact look_nil true keyZ mapUnder (zeroTx w) (keyIs i hi)
  · obtain ⟨v, ps, hrun, hv⟩ := ho.look_ok keyZ mapUnder (zeroTx w) Rt_zero (keyIs i hi)
    obtain ⟨rfl, h1, h2⟩ := Rt_at hv
    exact hrun
end

set_option maxRecDepth 100000 in
set_option maxHeartbeats 2000000 in
theorem getM_any (S : Nat) (m : Option Nat) (n : Nat) (D : DataW Unit) (i : Int) (hi : -9223372036854775808 ≤ i ∧ i ≤ 9223372036854775807) (w : World) (h : StoB w S m n D) :
    Calls Tryz.prog 10 #[.pointer (some ⟨S, 0, none⟩), .int .i64 i] w fun e w' => e = .returned (.tuple #[.string (txAt D i), .bool (has D (kz i))]) ∧ Below w.heap.size w w' := by
  have hc := h.1.cell 0
  have hl := h.2.lookOk i hi
  have hb := h.1.lt
  clear h
  go_enter Tryz.func10, Tryz.ntmps10
  go_wp2_with fail
  go_ret2
  exact ⟨rfl, (Below.refl _ _).alloc (Nat.le_refl _) _⟩

set_option maxRecDepth 100000 in
set_option maxHeartbeats 4000000 in
theorem space_any (S : Nat) (m : Option Nat) (n : Nat) (D : DataW Unit) (w : World) (h : StoB w S m n D) (ht : tot D ≤ 6144) :
    Calls Tryz.prog 19 #[.pointer (some ⟨S, 0, none⟩)] w fun e w' => e = .returned (.int .i64 (6144 - (tot D : Int))) ∧ Below w.heap.size w w' := by
  have hc := h.1.cell 0
  have hb := h.1.lt
  have hty := h.2.tidy
  have hks := h.2.keys
  rcases h.2 with ⟨rfl, rfl⟩ | ⟨b, rfl, ho⟩
  · have hrg := run_range_nilMap (P := Tryz.prog) w 24 3 46 mapUnder
    have hnx : ∀ ty, (Instr.next (.pointer (some ⟨w.heap.size, 0, none⟩)) false ty).run Tryz.prog (w.alloc (.mapIter none 0 #[] 0)) = _ := fun ty => run_next_nilMap w ty 0 0 #[]
    clear h hty hks ht
    go_enter Tryz.func19, Tryz.ntmps19
    go_wp2
    refine wp_loop_rounds 1 ?_
    rw [rounds_succ]
    go_wp2
    go_ret
    exact ⟨rfl, (Below.refl _ _).alloc (Nat.le_refl _) _⟩
  · have hlt := ho.lt
    clear h
    obtain ⟨T, hT⟩ : ∃ T : Nat, tot D = T := ⟨_, rfl⟩
    rw [hT] at ht ⊢
    go_enter Tryz.func19, Tryz.ntmps19
    go_wp2_with (first
      | (at_range; refine wpList_range_own _ rfl _ 24 rfl 3 46 keyZ mapUnder Rt b n _ rfl ho ?_; intro w0 hrg0 hg0 hs0)
      | go_in)
    go_frame
    go_loopw [3] (fun x wr => ∃ (left : Lit → Bool) (cnt : Nat), wr.ranges Tryz.prog 3 Rt b w.heap.size n D left cnt ∧ Below w.heap.size w wr ∧ w.heap.size < wr.heap.size ∧ x = .int .i64 (6144 - (T : Int) + (sumD dLen left D : Nat)))
      (fun _ wr => wr.rangeLeft b w.heap.size)
    case atStart =>
      refine ⟨_, _, hrg0, ⟨hg0.os, hg0.tape, hg0.output, hg0.size, fun k hk => hg0.block k hk (by simp)⟩, by omega, ?_⟩
      rw [sum_start dLen hty hks]
      show Value.int .i64 6144 = .int .i64 (6144 - (T : Int) + (tot D : Nat))
      rw [hT]
      congr 1
      omega
    case round =>
      obtain ⟨left, cnt, hrg, hbw, hsz, rfl⟩ := hrel
      have hpart := sum_part dLen left D
      replace hpart : sumD dLen left D ≤ T := by rw [← hT]; exact hpart
      go_wp2_with (first
        | (at_next; refine wpList_next_ranges _ rfl _ rfl 3 keyZ Rt (Value.int .i64) (fun c : ByteArray => .agg #[.string c]) (fun key kl hkey => by obtain ⟨x, rfl, _⟩ := keyOf_int_inv Tryz.underlying3 hkey; exact ⟨x, rfl⟩) Rt_shape b w.heap.size n _ _ _ rfl hrg ?_ ?_)
        | go_in)
      · intro _ hl0
        rw [sum_end dLen left hl0]
        go_wp2
        go_ret
        exact ⟨by simp, hbw⟩
      · intro x c kl yd yp w1 cnt1 hkey hlx hy hat hrg1 hlt1 hg1 hs1 hen
        obtain ⟨s2, e1, e2, hs2⟩ := Rt_inv hy
        obtain rfl : yd = .lit (.string s2.data.toList) := congrArg Prod.fst e2
        obtain rfl : c = s2 := by injection e1 with e1; injection e1 with e1; injection e1 with e1; injection e1
        have hst := sum_step dLen hty left kl hlx noTx rfl
        rw [hat noTx] at hst
        have hcl : dLen (.lit (.string c.data.toList)) = c.size := by show c.data.toList.length = c.size; simp
        rw [hcl] at hst
        obtain ⟨r, hr⟩ : ∃ r : Nat, sumD dLen (fun z => left z && !z.sameKey kl) D = r := ⟨_, rfl⟩
        rw [hr] at hst
        rw [hst] at hpart ⊢
        have hbw1 : Below w.heap.size w w1 := ⟨hg1.os.trans hbw.os, hg1.tape.trans hbw.tape, hg1.output.trans hbw.output, Nat.le_trans hbw.size hg1.size, fun k hk => (hg1.block k (by omega) (by simp; omega)).trans (hbw.block k hk)⟩
        have hsz1 : w.heap.size < w1.heap.size := by omega
        have hle := Lib.hid hrg.left_eq
        have hrgh := Lib.hid hrg1
        clear hst hat hy hty hks hbw hT hc hg1 hrg hrg1 hg0 hrg0 hs0 ho hs2
        go_wp2_with fail
        go_roundw
        case rel =>
          refine ⟨_, cnt1, hrgh.out.alloc _, hbw1.alloc (by omega) _, by simp; omega, ?_⟩
          rw [hr]
          congr 1
          omega
        case measure =>
          rw [(hrgh.out.alloc _).left_eq, hle.out]
          exact hlt1
end Go.Proofs.YtnbbepkkedhhgaaGreatDoor

namespace Go.Proofs.YtnbbepkkedhhgaaGreatDoor
open Go Go.RowKit Go.Maps

theorem Only.join {S : List Nat} {A B C : World} (h : Only S A B) (k : Only S B C) : Only S A C :=
  ⟨k.os.trans h.os, k.tape.trans h.tape, k.output.trans h.output, Nat.le_trans h.size k.size, fun i hi hS => (k.block i (Nat.lt_of_lt_of_le hi h.size) hS).trans (h.block i hi hS)⟩
theorem Only.more {S S2 : List Nat} {A B : World} (h : Only S A B) (hs : ∀ k ∈ S, k < A.heap.size → k ∈ S2) : Only S2 A B :=
  ⟨h.os, h.tape, h.output, h.size, fun i hi hS => h.block i hi (fun hm => hS (hs i hm hi))⟩
theorem Only.ofBelow {S : List Nat} {A B : World} (h : Below A.heap.size A B) : Only S A B := ⟨h.os, h.tape, h.output, h.size, fun i hi _ => h.block i hi⟩
theorem Only.ofGrown {S : List Nat} {A B : World} {b : Nat} (h : A.grownBy B (some b)) (hb : b ∈ S) : Only S A B :=
  ⟨h.os, h.tape, h.output, h.size, fun i hi hS => h.block i hi (fun e => by injection e with e; exact hS (e ▸ hb))⟩
theorem Only.ofGrown0 {S : List Nat} {A B : World} (h : A.grownBy B none) : Only S A B := ⟨h.os, h.tape, h.output, h.size, fun i hi _ => h.block i hi (by simp)⟩
/-- Which blocks an act of a store may turn. -/
def ownB (S : Nat) (m : Option Nat) : List Nat := S :: m.toList
/-- Where its map lies behind an act: where it lay, or anew. -/
def SameOrNew (w : World) (m m2 : Option Nat) : Prop := m2 = m ∨ ∃ b, m2 = some b ∧ w.heap.size ≤ b

set_option maxRecDepth 100000 in
set_option maxHeartbeats 2000000 in
theorem clearM_any (S : Nat) (m : Option Nat) (n : Nat) (D : DataW Unit) (w : World) (h : StoB w S m n D) :
    Calls Tryz.prog 14 #[.pointer (some ⟨S, 0, none⟩)] w fun e w' => (∃ v, e = .returned v) ∧ StoB w' S m n (.map []) ∧ Only (ownB S m) w w' := by
  have hc := h.1.cell 0
  have hb := h.1.lt
  rcases h.2 with ⟨rfl, rfl⟩ | ⟨b, rfl, ho⟩
  · have hcl := fun ty => clear_nil (w := w) mapUnder ty
    go_enter Tryz.func14, Tryz.ntmps14
    go_wp2_with fail
    go_end0
    exact ⟨⟨_, rfl⟩, h, Only.refl _⟩
  · have hbS := h.apart
    have HS := Lib.hid h.1
    clear h
    go_enter Tryz.func14, Tryz.ntmps14
    go_wp2_with (first | (refine wpList_clear_own _ rfl _ 24 rfl 3 46 mapUnder Rt b n _ rfl ho ?_; intro w1 ho1 ht1) | go_in)
    go_end0
    exact ⟨⟨_, rfl⟩, ⟨HS.out.grown ht1.grown (fun e => hbS (by injection e with e; exact e.symm)), .inr ⟨b, rfl, ho1⟩⟩, Only.ofGrown ht1.grown (by simp [ownB])⟩

/-- What a text at a number makes of a store. -/
def putD (D : DataW Unit) (i : Int) (s : ByteArray) : DataW Unit := if s.size = 0 then D.del (kz i) else D.put (kz i) (.lit (.string s.data.toList))
theorem bytes_eq_empty (s : ByteArray) : s = ⟨#[]⟩ ↔ s.size = 0 := by
  constructor
  · rintro rfl; rfl
  · intro h
    apply ByteArray.ext
    exact Array.eq_empty_of_size_eq_zero h

theorem str_mt (s : ByteArray) : s.toList.isEmpty = decide (s.size = 0) := by
  rw [ByteArray.toList_eq]
  have hl : s.data.toList.length = s.size := Array.length_toList
  rw [← hl]
  cases s.data.toList <;> simp
set_option maxRecDepth 100000 in
set_option maxHeartbeats 4000000 in
theorem putM_any (S : Nat) (m : Option Nat) (n : Nat) (D : DataW Unit) (i : Int) (hi : -9223372036854775808 ≤ i ∧ i ≤ 9223372036854775807) (s : ByteArray) (hs : s.size ≤ 6144) (hn : n < 1000000) (w : World) (h : StoB w S m n D) :
    Calls Tryz.prog 29 #[.pointer (some ⟨S, 0, none⟩), .int .i64 i, .string s] w fun e w' => (∃ v, e = .returned v) ∧ (∃ m2, StoB w' S m2 (n + 1) (putD D i s) ∧ SameOrNew w m m2) ∧ Only (ownB S m) w w' := by
  have hc := h.1.cell 0
  have hf := h.1.frozen 0
  have hb := h.1.lt
  have hkey := keyIs i hi
  by_cases hz : s.size = 0
  · have he : s.toList.isEmpty = true := by rw [str_mt]; simp [hz]
    have hp : putD D i s = D.del (kz i) := if_pos hz
    rw [hp]
    rcases h.2 with ⟨rfl, rfl⟩ | ⟨b, rfl, ho⟩
    · have hd := fun ty => drop_nil (w := w) keyZ mapUnder hkey ty
      go_enter Tryz.func29, Tryz.ntmps29
      go_wp2_with fail
      refine bodyPost_ret (results_none rfl _ _ _) rfl ?_
      exact ⟨⟨_, rfl⟩, ⟨none, ⟨h.1, .inl ⟨rfl, rfl⟩⟩, .inl rfl⟩, Only.refl _⟩
    · have hbS := h.apart
      have HS := Lib.hid h.1
      clear h
      go_enter Tryz.func29, Tryz.ntmps29
      go_wp2_with (first | (at_delete; refine wpList_delete_own _ rfl _ _ 24 3 rfl 46 keyZ mapUnder Rt b n _ rfl ho _ _ rfl hkey ?_; intro w1 ho1 ht1) | go_in)
      refine bodyPost_ret (results_none rfl _ _ _) rfl ?_
      exact ⟨⟨_, rfl⟩, ⟨some b, ⟨HS.out.grown ht1.grown (fun e => hbS (by injection e with e; exact e.symm)), .inr ⟨b, rfl, ho1.mono (by omega)⟩⟩, .inl rfl⟩, Only.ofGrown ht1.grown (by simp [ownB])⟩
  · have he : s.toList.isEmpty = false := by rw [str_mt]; simp [hz]
    have hp : putD D i s = D.put (kz i) (.lit (.string s.data.toList)) := if_neg hz
    rw [hp]
    have hmm := @run_makeMap Tryz.prog
    rcases h.2 with ⟨rfl, rfl⟩ | ⟨b, rfl, ho⟩
    · have HS := Lib.hid h.1
      clear h
      have ho0 : ((w.setCell ⟨S, 0, none⟩ (.map (some w.heap.size))).alloc (.map #[] 0)).ownsMap Tryz.prog 3 Rt w.heap.size 0 (.map []) := by
        have h0 := World.ownsMap_made (w.setCell ⟨S, 0, none⟩ (.map (some w.heap.size))) Tryz.prog 3 Rt
        have e : (w.setCell ⟨S, 0, none⟩ (.map (some w.heap.size))).heap.size = w.heap.size := by simp [World.setCell]
        rw [e] at h0
        exact h0
      have hS1 : Blk ((w.setCell ⟨S, 0, none⟩ (.map (some w.heap.size))).alloc (.map #[] 0)) S 26 #[.map (some w.heap.size)] := (HS.out.set_ 0 _).alloc _
      replace hS1 := Lib.hid hS1
      have hO0 : Only [S] w (w.setCell ⟨S, 0, none⟩ (.map (some w.heap.size))) := ⟨rfl, rfl, rfl, by simp [World.setCell], fun k _ hk => Below.heap_setCell w ⟨S, 0, none⟩ _ k (fun e => hk (by simp [e]))⟩
      have hO1 : Only [S] w ((w.setCell ⟨S, 0, none⟩ (.map (some w.heap.size))).alloc (.map #[] 0)) := hO0.join (Only.ofBelow ((Below.refl _ _).alloc (Nat.le_refl _) _))
      clear hO0
      replace hO1 := Lib.hid hO1
      have heq := run_eql_map_nil (P := Tryz.prog) w 24 3 46 none mapUnder
      go_enter Tryz.func29, Tryz.ntmps29
      go_wp2_with (first | (at_mapUpdate; refine wpList_mapUpdate_in _ rfl _ _ _ 24 rfl 3 46 keyZ mapUnder Rt w.heap.size 0 _ rfl ho0 (by unfold maxLen; omega) _ _ _ rfl rfl hkey _ [] (Rt_mk s hs) ?_; intro w1 ho1 ht1) | go_in)
      go_end0
      have hne : some S ≠ some w.heap.size := fun e => by injection e with e; omega
      refine ⟨⟨_, rfl⟩, ⟨some w.heap.size, ⟨hS1.out.grown ht1.grown hne, .inr ⟨w.heap.size, rfl, ho1.mono (by omega)⟩⟩, .inr ⟨_, rfl, Nat.le_refl _⟩⟩, ?_⟩
      have h2 : Only [w.heap.size, S] w w1 := (hO1.out.more (fun k hk _ => by simp at hk; simp [hk])).join (Only.ofGrown ht1.grown (by simp))
      exact h2.more (fun k hk hlt => by simp at hk; rcases hk with rfl | rfl <;> first | omega | simp [ownB])
    · have hbS := h.apart
      have HS := Lib.hid h.1
      clear h
      have heq := run_eql_map_nil (P := Tryz.prog) w 24 3 46 (some b) mapUnder
      go_enter Tryz.func29, Tryz.ntmps29
      go_wp2_with (first | (at_mapUpdate; refine wpList_mapUpdate_in _ rfl _ _ _ 24 rfl 3 46 keyZ mapUnder Rt b n _ rfl ho (by unfold maxLen; omega) _ _ _ rfl rfl hkey _ [] (Rt_mk s hs) ?_; intro w1 ho1 ht1) | go_in)
      go_end0
      exact ⟨⟨_, rfl⟩, ⟨some b, ⟨HS.out.grown ht1.grown (fun e => hbS (by injection e with e; exact e.symm)), .inr ⟨b, rfl, ho1⟩⟩, .inl rfl⟩, Only.ofGrown ht1.grown (by simp [ownB])⟩
end Go.Proofs.YtnbbepkkedhhgaaGreatDoor

namespace Go.Proofs.YtnbbepkkedhhgaaGreatDoor
open Go Go.RowKit Go.Maps

def roomD (D : DataW Unit) (i : Int) (cl : Bool) : Nat := if cl then 6144 else 6144 - tot D + (txAt D i).size
theorem room_le (D : DataW Unit) (hD : Tidy D) (ht : tot D ≤ 6144) (i : Int) (cl : Bool) : roomD D i cl ≤ 6144 := by
  unfold roomD
  have := sum_at dLen hD (kz i) noTx rfl
  rw [tx_size]
  unfold tot at *
  split <;> omega
set_option maxRecDepth 100000 in
set_option maxHeartbeats 4000000 in
theorem room_any (S : Nat) (m : Option Nat) (n : Nat) (D : DataW Unit) (i : Int) (hi : -9223372036854775808 ≤ i ∧ i ≤ 9223372036854775807) (cl : Bool) (w : World) (h : StoB w S m n D) (ht : tot D ≤ 6144) :
    Calls Tryz.prog 28 #[.pointer (some ⟨S, 0, none⟩), .int .i64 i, .bool cl] w fun e w' => e = .returned (.int .i64 (roomD D i cl : Nat)) ∧ Below w.heap.size w w' := by
  cases cl
  · have hr : ((roomD D i false : Nat) : Int) = 6144 - (tot D : Nat) + ((txAt D i).size : Nat) := by
      unfold roomD
      simp only [Bool.false_eq_true, if_false]
      omega
    have hle := room_le D h.2.tidy ht i false
    rw [hr]
    have hz := (h.2.look i hi).2.2
    have HS := Lib.hid h
    obtain ⟨T, hT⟩ : ∃ T : Nat, tot D = T := ⟨_, rfl⟩
    have HSp := Lib.hid (fun W (g : StoB W S m n D) => space_any S m n D W g ht)
    rw [hT] at HSp ht ⊢
    obtain ⟨t, htx⟩ : ∃ t : ByteArray, txAt D i = t := ⟨_, rfl⟩
    have HL := Lib.hid (fun W (g : StoB W S m n D) => (g.2.look i hi).1)
    rw [htx] at HL hz ⊢
    have hw1 : IntKind.i64.wrap (6144 - (T : Int) + (t.size : Int)) = 6144 - (T : Int) + (t.size : Int) := IntWalk.i64_in _ (by omega)
    clear h hr hle htx hT
    go_enter Tryz.func28, Tryz.ntmps28
    go_upto_region 3 with fail
    refine wp_region_mix_lit (by kernel_rfl) [(1, .call (.int .i64 (6144 - (T : Int))))] (by kernel_rfl) (by kernel_rfl) (by kernel_rfl) (by rfl) (by simp [apartK] <;> omega) (by simp [startK]) (by simp [stabK]) (⟨fun _ => undef, by simp [okK]⟩) (fun β hβ => ?_)
    refine lex_val (v := ?_) rfl rfl (fun w' hf => ?_) ?_
    rotate_left
    · go_simp
      try rfl
    try simp only [Act.put, List.setIfInBounds_toArray, List.set_cons_zero, List.set_cons_succ]
    refine lex_call (f := 19) (args := ?_) rfl rfl (fun w' hf => ?_) (fun w' hf => ?_) ?_
    rotate_left
    · go_simp
      try rfl
    · exact HSp.out w' (HS.out.next hf.only.below0)
    try simp only [Act.put, List.setIfInBounds_toArray, List.set_cons_zero, List.set_cons_succ]
    refine lex_val (v := ?_) rfl rfl (fun w' hf => ?_) ?_
    rotate_left
    · go_simp
      try rfl
    try simp only [Act.put, List.setIfInBounds_toArray, List.set_cons_zero, List.set_cons_succ]
    refine lex_val (v := ?_) rfl rfl (fun w' hf => ?_) ?_
    rotate_left
    · go_simp
      try rfl
    try simp only [Act.put, List.setIfInBounds_toArray, List.set_cons_zero, List.set_cons_succ]
    refine lex_val (v := ?_) rfl rfl (fun w' hf => ?_) ?_
    rotate_left
    · go_simp
      try rfl
    try simp only [Act.put, List.setIfInBounds_toArray, List.set_cons_zero, List.set_cons_succ]
    refine lex_val (v := ?_) rfl rfl (fun w' hf => ?_) ?_
    rotate_left
    · have q0 := (HS.out.next hf.only.below0).1.cell 0; go_simp
      try rfl
    try simp only [Act.put, List.setIfInBounds_toArray, List.set_cons_zero, List.set_cons_succ]
    refine lex_val (v := ?_) rfl rfl (fun w' hf => ?_) ?_
    rotate_left
    · go_simp
      try rfl
    try simp only [Act.put, List.setIfInBounds_toArray, List.set_cons_zero, List.set_cons_succ]
    refine lex_val (v := ?_) rfl rfl (fun w' hf => ?_) ?_
    rotate_left
    · have q1 := HL.out _ (HS.out.next hf.only.below0); go_simp
      try rfl
    try simp only [Act.put, List.setIfInBounds_toArray, List.set_cons_zero, List.set_cons_succ]
    refine lex_val (v := ?_) rfl rfl (fun w' hf => ?_) ?_
    rotate_left
    · go_simp
      try rfl
    try simp only [Act.put, List.setIfInBounds_toArray, List.set_cons_zero, List.set_cons_succ]
    refine lex_val (v := ?_) rfl rfl (fun w' hf => ?_) ?_
    rotate_left
    · go_simp
      try rfl
    try simp only [Act.put, List.setIfInBounds_toArray, List.set_cons_zero, List.set_cons_succ]
    refine lex_val (v := ?_) rfl rfl (fun w' hf => ?_) ?_
    rotate_left
    · go_simp
      try rfl
    try simp only [Act.put, List.setIfInBounds_toArray, List.set_cons_zero, List.set_cons_succ]
    refine lex_val (v := ?_) rfl rfl (fun w' hf => ?_) ?_
    rotate_left
    · go_simp
      try rfl
    try simp only [Act.put, List.setIfInBounds_toArray, List.set_cons_zero, List.set_cons_succ]
    refine lex_nil fun w' he => ?_
    go_wp2_with fail
    go_ret
    exact ⟨rfl, he.only.below0⟩
  · have hr : ((roomD D i true : Nat) : Int) = 6144 := rfl
    rw [hr]
    go_enter Tryz.func28, Tryz.ntmps28
    go_wp2_with fail
    go_ret
    exact ⟨rfl, Below.refl _ _⟩

/-- What is taken: the error, the bytes. -/
def takeD (hx : Bool) (d : ByteArray) (M : Nat) : Int × ByteArray :=
  if hx then ((dcF (d.size + 1) M [] (natL d.data.toList)).1, bstr (dcF (d.size + 1) M [] (natL d.data.toList)).2)
  else if M < d.size then (5, ⟨#[]⟩) else (0, d)
theorem sclone_any (s : ByteArray) (hs : s.size ≤ 100000) (w : World) : Calls Tryz.prog 45 #[.string s] w fun e w' => e = .returned (.string s) ∧ Below w.heap.size w w' := by
  have H := Lib.hid (Tryz.stringslite_Clone s w (by omega))
  go_enter Tryz.func45, Tryz.ntmps45
  go_wp2_with fail
  refine H.out.mono ?_
  rintro e w1 ⟨rfl, hb⟩
  have HB := Lib.hid hb
  clear hb
  go_wp2_with fail
  go_ret
  exact ⟨rfl, HB.out⟩
set_option maxRecDepth 100000 in
set_option maxHeartbeats 4000000 in
theorem taken_any (hx : Bool) (d : ByteArray) (hd : d.size ≤ 100000) (M : Nat) (hM : M ≤ 100000) (w : World) (he : ErrS w) :
    Calls Tryz.prog 27 #[.bool hx, .string d, .int .i64 M] w fun e w' => e = .returned (.tuple #[.string (takeD hx d M).2, .int .i64 (takeD hx d M).1]) ∧ Below w.heap.size w w' := by
  cases hx
  · by_cases h : M < d.size
    · have e : takeD false d M = (5, ⟨#[]⟩) := by unfold takeD; simp [h]
      have g : (M : Int) < (d.size : Int) := by omega
      rw [e]
      clear he
      go_enter Tryz.func27, Tryz.ntmps27
      go_wp2_with fail
      go_ret2
      exact ⟨rfl, Below.refl _ _⟩
    · have e : takeD false d M = (0, d) := by unfold takeD; simp [h]
      have g : ¬ (M : Int) < (d.size : Int) := by omega
      have H := Lib.hid (sclone_any d hd w)
      rw [e]
      clear he
      go_enter Tryz.func27, Tryz.ntmps27
      go_wp2_with fail
      refine H.out.mono ?_
      rintro e w1 ⟨rfl, hb⟩
      have HB := Lib.hid hb
      clear hb
      go_wp2_with fail
      go_ret2
      exact ⟨rfl, HB.out⟩
  · have H := Lib.hid (decode_any d hd M hM M (by split <;> omega) w he)
    obtain ⟨z, hz⟩ : ∃ z, z = dcF (d.size + 1) M [] (natL d.data.toList) := ⟨_, rfl⟩
    have e : takeD true d M = (z.1, bstr z.2) := by unfold takeD; rw [if_pos rfl, ← hz]
    rw [← hz] at H
    rw [e]
    obtain ⟨za, zb⟩ := z
    unfold dcV at H
    obtain ⟨zs, hzs⟩ : ∃ zs, zs = bstr zb := ⟨_, rfl⟩
    simp only [← hzs] at H ⊢
    clear he e hz hzs
    go_enter Tryz.func27, Tryz.ntmps27
    go_wp2_with fail
    refine H.out.mono ?_
    rintro e w1 ⟨rfl, hb⟩
    have HB := Lib.hid hb
    clear hb
    go_wp2_with fail
    go_ret2
    exact ⟨rfl, HB.out⟩

/-- What a definition leaves: the error, the macros. -/
def defD (D : DataW Unit) (i : Int) (cl hx : Bool) (d : ByteArray) : Int × DataW Unit :=
  if i < 0 ∨ 64 ≤ i then (1, D) else
  if (takeD hx d (roomD D i cl)).1 = 0 then (0, putD (if cl then .map [] else D) i (takeD hx d (roomD D i cl)).2) else ((takeD hx d (roomD D i cl)).1, D)
theorem bstr_len (l : List Nat) : (bstr l).size = l.length := by rw [bstr_size]
theorem take_le (hx : Bool) (d : ByteArray) (M : Nat) : (takeD hx d M).2.size ≤ M := by
  unfold takeD
  cases hx
  · simp only [Bool.false_eq_true, if_false]
    split
    · exact Nat.zero_le _
    · show d.size ≤ M; omega
  · rw [if_pos rfl]
    show (bstr _).size ≤ M
    rw [bstr_size]
    exact (dcF_len _ M [] _ (by simp)).1
set_option maxRecDepth 100000 in
set_option maxHeartbeats 8000000 in
theorem defineM_any (S : Nat) (m : Option Nat) (n : Nat) (D : DataW Unit) (i : Int) (hi : -9223372036854775808 ≤ i ∧ i ≤ 9223372036854775807) (cl hx : Bool) (d : ByteArray) (hd : d.size ≤ 100000) (hn : n < 1000000) (w : World) (h : StoB w S m n D) (ht : tot D ≤ 6144) (he : ErrS w) :
    Calls Tryz.prog 16 #[.pointer (some ⟨S, 0, none⟩), .int .i64 i, .bool cl, .bool hx, .string d] w fun e w' => e = .returned (.int .i64 (defD D i cl hx d).1) ∧ (∃ m2, StoB w' S m2 (n + 1) (defD D i cl hx d).2 ∧ SameOrNew w m m2) ∧ Only (ownB S m) w w' := by
  have hmono : ∀ {W : World} {D2 : DataW Unit}, StoB W S m n D2 → StoB W S m (n + 1) D2 := fun g => ⟨g.1, by
    rcases g.2 with ⟨h1, h2⟩ | ⟨b, h1, h2⟩
    · exact .inl ⟨h1, h2⟩
    · exact .inr ⟨b, h1, h2.mono (by omega)⟩⟩
  by_cases hout : i < 0 ∨ 64 ≤ i
  · have e : defD D i cl hx d = (1, D) := if_pos hout
    rw [e]
    have HS := Lib.hid h
    clear h he e
    by_cases g : i < 0
    · go_enter Tryz.func16, Tryz.ntmps16
      go_wp2_with fail
      go_ret
      exact ⟨rfl, ⟨m, hmono HS.out, .inl rfl⟩, Only.refl _⟩
    · have g2 : 64 ≤ i := by omega
      go_enter Tryz.func16, Tryz.ntmps16
      go_wp2_with fail
      go_ret
      exact ⟨rfl, ⟨m, hmono HS.out, .inl rfl⟩, Only.refl _⟩
  · have g1 : ¬ i < 0 := by omega
    have g2 : ¬ 64 ≤ i := by omega
    have hM := room_le D h.2.tidy ht i cl
    have H1 := Lib.hid (room_any S m n D i hi cl w h ht)
    obtain ⟨M, hMe⟩ : ∃ M, roomD D i cl = M := ⟨_, rfl⟩
    have hd0 : defD D i cl hx d = if (takeD hx d M).1 = 0 then (0, putD (if cl then .map [] else D) i (takeD hx d M).2) else ((takeD hx d M).1, D) := by
      unfold defD
      rw [if_neg hout, hMe]
    rw [hMe] at H1 hM
    have H2 := Lib.hid (fun W g => taken_any hx d hd M (by omega) W g)
    have hzl := take_le hx d M
    obtain ⟨z, hz⟩ : ∃ z, takeD hx d M = z := ⟨_, rfl⟩
    rw [hz] at hd0 hzl
    have H2c : Hid (∀ W, ErrS W → Calls Tryz.prog 27 #[.bool hx, .string d, .int .i64 M] W fun e w' => e = .returned (.tuple #[.string z.2, .int .i64 z.1]) ∧ Below W.heap.size W w') := Lib.hid (fun W g => by have := H2.out W g; rw [hz] at this; exact this)
    clear H2 hz
    obtain ⟨zc, zs⟩ := z
    simp only at hd0 hzl H2c
    have HS := Lib.hid h
    have HE := Lib.hid he
    have HD := Lib.hid hd0
    clear hd0 hMe h he hout
    go_enter Tryz.func16, Tryz.ntmps16
    go_wp2_with fail
    refine H1.out.mono ?_
    rintro e w1 ⟨rfl, hb1⟩
    have HB1 := Lib.hid hb1
    clear hb1 H1
    go_wp2_with fail
    refine (H2c.out _ (HE.out.next HB1.out)).mono ?_
    rintro e w2 ⟨rfl, hb2⟩
    have HB2 := Lib.hid (HB1.out.trans (hb2.mono HB1.out.size))
    have HS2 := Lib.hid ((HS.out.next HB1.out).next hb2)
    clear hb2 H2c HB1
    by_cases hzc : zc = 0
    · subst hzc
      cases cl
      · have HP := Lib.hid (putM_any S m n D i hi zs (by omega) hn w2 HS2.out)
        go_wp2_with fail
        refine HP.out.mono ?_
        rintro e w3 ⟨⟨v, rfl⟩, ⟨m2, hs3, hsn⟩, ho3⟩
        have HO := Lib.hid ((Only.ofBelow HB2.out).join (ho3.more (fun k hk _ => hk)))
        have HX := Lib.hid (And.intro hs3 hsn)
        clear hs3 hsn ho3 HP
        go_wp2_with fail
        go_ret
        refine ⟨by rw [HD.out, if_pos trivial]; rfl, ⟨m2, by rw [HD.out, if_pos trivial]; exact HX.out.1, ?_⟩, HO.out⟩
        rcases HX.out.2 with h | ⟨b, h1, h2⟩
        · exact .inl h
        · exact .inr ⟨b, h1, Nat.le_trans HB2.out.size h2⟩
      · have HC := Lib.hid (clearM_any S m n D w2 HS2.out)
        go_wp2_with fail
        refine HC.out.mono ?_
        rintro e w3 ⟨⟨v, rfl⟩, hs3, ho3⟩
        have HO3 := Lib.hid ((Only.ofBelow (S := ownB S m) HB2.out).join ho3)
        have HP := Lib.hid (putM_any S m n (.map []) i hi zs (by omega) hn w3 hs3)
        clear hs3 ho3 HC
        go_wp2_with fail
        refine HP.out.mono ?_
        rintro e w4 ⟨⟨v, rfl⟩, ⟨m2, hs4, hsn⟩, ho4⟩
        have HO := Lib.hid (HO3.out.join ho4)
        have HX := Lib.hid (And.intro hs4 hsn)
        clear hs4 hsn ho4 HP
        go_wp2_with fail
        go_ret
        refine ⟨by rw [HD.out, if_pos trivial]; rfl, ⟨m2, by rw [HD.out, if_pos trivial]; exact HX.out.1, ?_⟩, HO.out⟩
        rcases HX.out.2 with h | ⟨b, h1, h2⟩
        · exact .inl h
        · exact .inr ⟨b, h1, Nat.le_trans HO3.out.size h2⟩
    · go_wp2_with fail
      go_ret
      exact ⟨by rw [HD.out, if_neg hzc]; rfl, ⟨m, by rw [HD.out, if_neg hzc]; exact hmono HS2.out, .inl rfl⟩, Only.ofBelow HB2.out⟩
end Go.Proofs.YtnbbepkkedhhgaaGreatDoor

namespace Go.Proofs.YtnbbepkkedhhgaaGreatDoor
open Go Go.RowKit Go.Maps

theorem mtxUnder : Tryz.prog.underlying 46 = some (.struct (Tryz.prog.fieldsOf 46)) := by kernel_rfl
theorem mtxStood : Tryz.prog.stoodInHeld 46 = false := by kernel_rfl
theorem mtxGuard : Tryz.prog.eqGuardType Tryz.prog.depth 46 = false := by kernel_rfl
theorem mtxFields : (Tryz.prog.fieldsOf 46).toList.map (fun f => (f.name != "_", f.type, f.offset)) = [(true, 9, 0)] := by kernel_rfl
theorem mtxInfo : (Tryz.prog.info? 46).map (·.size) = some 1 := by kernel_rfl
theorem part_mtx (W : World) (xs : Array Value) (i : Nat) (s : ByteArray) (h : xs[i]? = some (.string s)) : (part 9 xs i).run Tryz.prog W = .ok (.string s) W := by
  simp [part, h]
theorem bytes_beq (a b : ByteArray) : (a.toList == b.toList) = decide (a = b) := by
  rw [ByteArray.toList_eq, ByteArray.toList_eq]
  by_cases h : a = b
  · subst h; simp
  · rw [decide_eq_false h, beq_eq_false_iff_ne]
    intro e
    exact h (ByteArray.ext (Array.toList_inj.1 e))
set_option maxRecDepth 100000 in
theorem eq_mtx (W : World) (m : Nat) (s t : ByteArray) : (Op.equalIn (m + 2) 46 (.agg #[.string s]) (.agg #[.string t])).run Tryz.prog W = .ok (decide (s = t)) W := by
  rw [run_equalIn_struct W (m + 1) 46 _ _ mtxUnder mtxStood]
  obtain ⟨l, hl⟩ : ∃ l, (Tryz.prog.fieldsOf 46).toList = l := ⟨_, rfl⟩
  have hf := mtxFields
  rw [hl] at hf ⊢
  match l, hf with
  | [f0], hf =>
    simp only [List.map_cons, List.map_nil, List.cons.injEq, Prod.mk.injEq, bne_iff_ne, and_true] at hf
    obtain ⟨n0, t0, o0⟩ := hf
    have P0 := part_mtx W #[.string s] 0 s rfl
    have P1 := part_mtx W #[.string t] 0 t rfl
    simp only [Op.eqFields, t0, o0, n0, ne_eq, not_false_eq_true, if_true, Sem.run_bind, P0, P1, Result.andThen_ok, run_equalIn_string W m 9 s t Tryz.underlying9, bytes_beq]
    by_cases hst : s = t <;> simp [hst]
theorem neq_mtx (W : World) (s t : ByteArray) : (binOp .neq 46 (.agg #[.string s]) (.agg #[.string t])).run Tryz.prog W = .ok (.bool (!decide (s = t))) W := by
  rw [run_neq_struct, show (10000 : Nat) = 9998 + 2 from rfl, eq_mtx]; rfl
theorem guard_mtx (W : World) (op : BinOp) (p q : Operand) (xs ys : Array Value) : (eqGuard op 46 p q (.agg xs) (.agg ys)).run Tryz.prog W = .ok () W := run_eqGuard_agg W op _ p q _ _ mtxGuard

theorem MapOf.canon {w : World} {m : Option Nat} {n : Nat} {D : DataW Unit} (h : MapOf w m n D) : Canon D := by
  rcases h with ⟨_, rfl⟩ | ⟨b, _, ho⟩
  · exact canon_empty
  · exact ho.canon keyZ
theorem MapOf.len {w : World} {m : Option Nat} {n : Nat} {D : DataW Unit} (h : MapOf w m n D) (ty : TypeId) : (Builtin.len_ #[24] ty #[.map m]).run Tryz.prog w = .ok (.int .i64 (Maps.size D)) w := by
  rcases h with ⟨rfl, rfl⟩ | ⟨b, rfl, ho⟩
  · exact len_nil mapUnder ty
  · exact ho.len mapUnder ty
open Classical in
/-- As many of the one as of the other, and all of the one among the other: then also the other way round. -/
theorem all_back {α : Type} : ∀ (l1 l2 : List α), l1.Nodup → (∀ x ∈ l1, x ∈ l2) → l2.length ≤ l1.length → ∀ x ∈ l2, x ∈ l1
  | [], l2, _, _, hl, x, hx => by
    have : l2 = [] := List.length_eq_zero_iff.1 (Nat.le_zero.1 hl)
    rw [this] at hx; exact hx
  | a :: l1, l2, hn, hs, hl, x, hx => by
    obtain ⟨h1, h2⟩ := List.nodup_cons.1 hn
    have ha : a ∈ l2 := hs a (by simp)
    by_cases e : x = a
    · subst e; simp
    · refine List.mem_cons_of_mem _ (all_back l1 (l2.erase a) h2 (fun y hy => (List.mem_erase_of_ne (fun (e2 : y = a) => h1 (by rw [← e2]; exact hy))).2 (hs y (by simp [hy]))) ?_ x ((List.mem_erase_of_ne e).2 hx))
      rw [List.length_erase_of_mem ha]
      simp only [List.length_cons] at hl
      omega
theorem has_key {es : List (Lit × DataW Unit)} (hk : ∀ p ∈ es, WideAt.IsKeyLit p.1) (k : Lit) : has (.map es : DataW Unit) k = true ↔ k ∈ es.map (·.1) := by
  show es.any (fun p => p.1.sameKey k) = true ↔ _
  rw [List.any_eq_true, List.mem_map]
  constructor
  · rintro ⟨p, hp, h⟩; exact ⟨p, hp, WideAt.sameKey_eq h⟩
  · rintro ⟨p, hp, h⟩; exact ⟨p, hp, by rw [h]; exact WideAt.sameKey_self (h ▸ hk p hp)⟩
/-- Maps of one size, the one's entries all among the other's, are one. -/
theorem maps_one {D1 D2 : DataW Unit} (c1 : Canon D1) (c2 : Canon D2) (t1 : Tidy D1) (hs : Maps.size D1 = Maps.size D2) (hk1 : ∃ es, D1 = .map es ∧ ∀ p ∈ es, WideAt.IsKeyLit p.1) (hk2 : ∃ es, D2 = .map es ∧ ∀ p ∈ es, WideAt.IsKeyLit p.1)
    (hg : ∀ k, has D1 k = true → has D2 k = true ∧ D2.atKey k noTx = D1.atKey k noTx) : D1 = D2 := by
  refine ext c1 c2 (fun k => ?_) (fun k z h => ?_)
  · obtain ⟨e1, rfl, k1⟩ := hk1
    obtain ⟨e2, rfl, k2⟩ := hk2
    obtain ⟨e1', h1, p1⟩ := t1
    injection h1 with h1
    subst h1
    have hb := all_back (e1.map (·.1)) (e2.map (·.1)) (by rw [List.Nodup, List.pairwise_map]; exact p1) (fun x hx => (has_key k2 x).1 (hg x ((has_key k1 x).2 hx)).1) (by simp only [List.length_map]; exact Nat.le_of_eq hs.symm) k
    cases ha : has (.map e1 : DataW Unit) k
    · cases hc : has (.map e2 : DataW Unit) k
      · rfl
      · have := (has_key k1 k).2 (hb ((has_key k2 k).1 hc))
        rw [ha] at this; cases this
    · exact (hg k ha).1.symm
  · obtain ⟨h1, h2⟩ := hg k h
    rw [atKey_indep h z noTx, atKey_indep h1 z noTx, h2]

def mclP : World → Option Nat → Prop := fun w m => m = none ∨ ∃ b, m = some b ∧ w.heap.size ≤ b
theorem mclone_any (m : Option Nat) (n : Nat) (D : DataW Unit) (w : World) (h : MapOf w m n D) :
    Calls Tryz.prog 13 #[.map m] w fun e w' => ∃ m2, e = .returned (.map m2) ∧ MapOf w' m2 n D ∧ Below w.heap.size w w' ∧ mclP w m2 := by
  rcases h with ⟨rfl, rfl⟩ | ⟨b, rfl, ho⟩
  · refine (AnyW.maps_Clone_nil Tryz.mclone w).mono ?_
    rintro e w' ⟨rfl, rfl⟩
    exact ⟨none, rfl, .inl ⟨rfl, rfl⟩, Below.refl _ _, .inl rfl⟩
  · refine (AnyW.maps_Clone_owns Tryz.mclone 3 Rt b n D w ho).mono ?_
    rintro e w' ⟨rfl, h1, h2, h3⟩
    exact ⟨some w.heap.size, rfl, .inr ⟨_, rfl, h1⟩, h3, .inr ⟨_, rfl, Nat.le_refl _⟩⟩
set_option maxRecDepth 100000 in
set_option maxHeartbeats 4000000 in
theorem cloneM_any (S : Nat) (m : Option Nat) (n : Nat) (D : DataW Unit) (w : World) (h : StoB w S m n D) :
    Calls Tryz.prog 5 #[.pointer (some ⟨S, 0, none⟩)] w fun e w' => (∃ B m2, e = .returned (.pointer (some ⟨B, 0, none⟩)) ∧ StoB w' B m2 n D ∧ w.heap.size ≤ B ∧ mclP w m2) ∧ Below w.heap.size w w' := by
  have hc := h.1.cell 0
  have H := Lib.hid (mclone_any m n D w h.2)
  have HS := Lib.hid h
  clear h
  go_enter Tryz.func5, Tryz.ntmps5
  go_wp2_with fail
  refine H.out.mono ?_
  rintro e w1 ⟨m2, rfl, hm, hb, hp⟩
  have HM := Lib.hid hm
  have HB := Lib.hid hb
  have HP := Lib.hid hp
  clear hm hb hp H hc
  go_wp2_with fail
  go_ret
  refine ⟨⟨w1.heap.size, m2, rfl, ⟨Blk.new _ _ _, HM.out.next ((Below.refl _ _).alloc (Nat.le_refl _) _)⟩, HB.out.size, HP.out⟩, HB.out.alloc HB.out.size _⟩

set_option maxRecDepth 100000 in
set_option maxHeartbeats 8000000 in
theorem mequal_any (m1 m2 : Option Nat) (n1 n2 : Nat) (D1 D2 : DataW Unit) (w : World) (h1 : MapOf w m1 n1 D1) (h2 : MapOf w m2 n2 D2) :
    Calls Tryz.prog 23 #[.map m1, .map m2] w fun e w' => (∃ v : Bool, e = .returned (.bool v) ∧ (v = true ↔ D1 = D2)) ∧ Below w.heap.size w w' := by
  have hl1 := fun ty => h1.len ty
  have hl2 := fun ty => h2.len ty
  by_cases hs : Maps.size D1 = Maps.size D2
  · have hkk := maps_one h1.canon h2.canon h1.tidy hs h1.keys h2.keys
    have hsz : ((Maps.size D1 : Int) != (Maps.size D2 : Int)) = false := by rw [hs]; simp
    rcases h1 with ⟨rfl, rfl⟩ | ⟨b, rfl, ho⟩
    · have hD2 := hkk (fun k hk => by cases hk)
      have hrg := run_range_nilMap (P := Tryz.prog) w 24 3 46 mapUnder
      have hnx : ∀ ty, (Instr.next (.pointer (some ⟨w.heap.size, 0, none⟩)) false ty).run Tryz.prog (w.alloc (.mapIter none 0 #[] 0)) = _ := fun ty => run_next_nilMap w ty 0 0 #[]
      have HD := Lib.hid hD2
      clear hkk h2 hD2
      go_enter Tryz.func23, Tryz.ntmps23
      go_wp2
      refine wp_loop_rounds 1 ?_
      rw [rounds_succ]
      go_wp2
      go_ret
      exact ⟨⟨true, rfl, ⟨fun _ => HD.out, fun _ => rfl⟩⟩, (Below.refl _ _).alloc (Nat.le_refl _) _⟩
    · have hlt := ho.lt
      have H2 := Lib.hid h2
      have HKK := Lib.hid hkk
      have hty := ho.tidy keyZ
      clear hkk h2
      go_enter Tryz.func23, Tryz.ntmps23
      go_wp2_with (first
        | (at_range; refine wpList_range_own _ rfl _ 24 rfl 3 46 keyZ mapUnder Rt b n1 _ rfl ho ?_; intro w0 hrg0 hg0 hs0)
        | go_in)
      go_frame
      go_loopw [5] (fun _ wr => ∃ (left : Lit → Bool) (cnt : Nat), wr.ranges Tryz.prog 3 Rt b w.heap.size n1 D1 left cnt ∧ Below w.heap.size w wr ∧ w.heap.size < wr.heap.size ∧ (∀ k, has D1 k = true → left k = false → has D2 k = true ∧ D2.atKey k noTx = D1.atKey k noTx))
        (fun _ wr => wr.rangeLeft b w.heap.size)
      case atStart =>
        exact ⟨_, _, hrg0, ⟨hg0.os, hg0.tape, hg0.output, hg0.size, fun k hk => hg0.block k hk (by simp)⟩, by omega, fun k hk hl => by rw [hk] at hl; cases hl⟩
      case round =>
        obtain ⟨left, cnt, hrg, hbw, hsz2, hgood⟩ := hrel
        have HG := Lib.hid hgood
        clear hgood
        go_wp2_with (first
          | (at_next; refine wpList_next_ranges _ rfl _ rfl 3 keyZ Rt (Value.int .i64) (fun c : ByteArray => .agg #[.string c]) (fun key kl hkey => by obtain ⟨x, rfl, _⟩ := keyOf_int_inv Tryz.underlying3 hkey; exact ⟨x, rfl⟩) Rt_shape b w.heap.size n1 _ _ _ rfl hrg ?_ ?_)
          | go_in)
        · intro _ hl0
          have HD := Lib.hid (HKK.out (fun k hk => HG.out k hk (hl0 k)))
          go_wp2
          go_ret
          exact ⟨⟨true, rfl, ⟨fun _ => HD.out, fun _ => rfl⟩⟩, hbw⟩
        · intro x c kl yd yp w1 cnt1 hkey hlx hy hat hrg1 hlt1 hg1 hs1 hen
          obtain ⟨s2, e1, e2, hs2⟩ := Rt_inv hy
          obtain rfl : yd = .lit (.string s2.data.toList) := congrArg Prod.fst e2
          obtain rfl : c = s2 := by injection e1 with e1; injection e1 with e1; injection e1 with e1; injection e1
          obtain ⟨x', ex, hkl, hwx⟩ := keyOf_int_inv Tryz.underlying3 hkey
          obtain rfl : x = x' := by injection ex
          subst hkl
          have hle := Lib.hid hrg.left_eq
          have hrgh := Lib.hid hrg1
          have hbw1 : Below w.heap.size w w1 := ⟨hg1.os.trans hbw.os, hg1.tape.trans hbw.tape, hg1.output.trans hbw.output, Nat.le_trans hbw.size hg1.size, fun k hk => (hg1.block k (by omega) (by simp; omega)).trans (hbw.block k hk)⟩
          have hsz1 : w.heap.size < w1.heap.size := by omega
          have hx := bounds_i64 hwx
          have hhas1 : has D1 (kz x) = true := has_true_of_atKey hat
          have hat1 := hat noTx
          have hM2 : MapOf (w1.alloc (.cells #[.string c] 46)) m2 n2 D2 := H2.out.next (hbw1.alloc (by omega) _)
          have hlk := hM2.lookOk x (by omega)
          obtain ⟨hlk0, hat2, _⟩ := hM2.look x (by omega)
          obtain ⟨d, hd⟩ : ∃ d, txAt D2 x = d := ⟨_, rfl⟩
          rw [hd] at hlk hat2
          have HM := Lib.hid (And.intro hhas1 (And.intro hat1 hat2))
          clear hlk0 hhas1 hat1 hat2 hat hM2 hy hty hbw hg1 hrg hrg1 hg0 hrg0 hs0 ho hs2 hd hl1 hl2 hkey e2
          have hneq := neq_mtx
          have hgd := guard_mtx
          cases hh2 : has D2 (kz x)
          · rw [hh2] at hlk
            go_wp2_with fail
            go_ret
            exact ⟨⟨false, rfl, ⟨(fun h => by cases h), (fun h => by rw [← h, HM.out.1] at hh2; cases hh2)⟩⟩, (hbw1.alloc (by omega) _).alloc (by simp; omega) _⟩
          · rw [hh2] at hlk
            go_wp2_with fail
            · rename_i hcd
              go_ret
              refine ⟨⟨false, rfl, ⟨(fun h => by cases h), (fun h => ?_)⟩⟩, (hbw1.alloc (by omega) _).alloc (by simp; omega) _⟩
              have e1 := HM.out.2.1
              have e2 := HM.out.2.2
              rw [← h] at e2
              have e3 : (DataW.lit (Lit.string c.data.toList) : DataW Unit) = .lit (.string d.data.toList) := e1.symm.trans e2
              have e4 : c = d := by
                injection e3 with e3; injection e3 with e3
                exact ByteArray.ext (Array.toList_inj.1 e3)
              simp [e4] at hcd
            · rename_i hcd
              have hcd2 : c = d := by simpa using hcd
              subst hcd2
              have hr2 := (hrgh.out.alloc (.cells #[.string c] 46)).alloc (.cells #[.string c] 46)
              refine ⟨⟨_, cnt1, hr2, (hbw1.alloc (by omega) _).alloc (by simp; omega) _, by simp; omega, fun k hk hl => ?_⟩, ?_⟩
              · cases hlk2 : left k
                · exact HG.out k hk hlk2
                · rw [hlk2, Bool.true_and] at hl
                  have hs3 : k.sameKey (.int .i64 x) = true := by simpa using hl
                  have := WideAt.sameKey_eq hs3
                  subst this
                  exact ⟨hh2, HM.out.2.2.trans HM.out.2.1.symm⟩
              · rw [hr2.left_eq, hle.out]
                exact hlt1
  · have hsz : ((Maps.size D1 : Int) != (Maps.size D2 : Int)) = true := by simp; omega
    clear h1 h2
    go_enter Tryz.func23, Tryz.ntmps23
    go_wp2_with fail
    go_ret
    exact ⟨⟨false, rfl, ⟨(fun h => by cases h), (fun h => absurd (congrArg Maps.size h) hs)⟩⟩, Below.refl _ _⟩

set_option maxRecDepth 100000 in
set_option maxHeartbeats 4000000 in
theorem sameM_any (S T : Nat) (m1 m2 : Option Nat) (n1 n2 : Nat) (D1 D2 : DataW Unit) (w : World) (h1 : StoB w S m1 n1 D1) (h2 : StoB w T m2 n2 D2) :
    Calls Tryz.prog 8 #[.pointer (some ⟨S, 0, none⟩), .pointer (some ⟨T, 0, none⟩)] w fun e w' => (∃ v : Bool, e = .returned (.bool v) ∧ (v = true ↔ D1 = D2)) ∧ Below w.heap.size w w' := by
  have hc := h1.1.cell 0
  have hd := h2.1.cell 0
  have hS := h1.1.lt
  have hT := h2.1.lt
  have HM1 := Lib.hid h1.2
  have HM2 := Lib.hid h2.2
  clear h1 h2
  go_enter Tryz.func8, Tryz.ntmps8
  go_upto_region 1 with fail
  refine wp_region_mix_lit (by kernel_rfl) [(8, .letter (fun u => ∃ v : Bool, u = .bool v ∧ (v = true ↔ D1 = D2)) (fun _ _ => True))] (by kernel_rfl) (by kernel_rfl) (by kernel_rfl) (by rfl) (by simp [apartK] <;> omega) (by simp [startK]) (by simp [stabK]) (⟨fun _ => .bool (@decide (D1 = D2) (Classical.propDecidable _)), by simp [okK]; exact (Classical.em _).symm⟩) (fun β hβ => ?_)
  refine lex_val (v := ?_) rfl rfl (fun w' hf => ?_) ?_
  rotate_left
  · go_simp
    try rfl
  try simp only [Act.put, List.setIfInBounds_toArray, List.set_cons_zero, List.set_cons_succ]
  refine lex_val (v := ?_) rfl rfl (fun w' hf => ?_) ?_
  rotate_left
  · go_simp
    try rfl
  try simp only [Act.put, List.setIfInBounds_toArray, List.set_cons_zero, List.set_cons_succ]
  refine lex_val (v := ?_) rfl rfl (fun w' hf => ?_) ?_
  rotate_left
  · go_simp
    try rfl
  try simp only [Act.put, List.setIfInBounds_toArray, List.set_cons_zero, List.set_cons_succ]
  refine lex_val (v := ?_) rfl rfl (fun w' hf => ?_) ?_
  rotate_left
  · have q0 := hf.only.below0.cell (p := ⟨S, 0, none⟩) hS; rw [hc] at q0; go_simp
    try rfl
  try simp only [Act.put, List.setIfInBounds_toArray, List.set_cons_zero, List.set_cons_succ]
  refine lex_val (v := ?_) rfl rfl (fun w' hf => ?_) ?_
  rotate_left
  · go_simp
    try rfl
  try simp only [Act.put, List.setIfInBounds_toArray, List.set_cons_zero, List.set_cons_succ]
  refine lex_val (v := ?_) rfl rfl (fun w' hf => ?_) ?_
  rotate_left
  · go_simp
    try rfl
  try simp only [Act.put, List.setIfInBounds_toArray, List.set_cons_zero, List.set_cons_succ]
  refine lex_val (v := ?_) rfl rfl (fun w' hf => ?_) ?_
  rotate_left
  · go_simp
    try rfl
  try simp only [Act.put, List.setIfInBounds_toArray, List.set_cons_zero, List.set_cons_succ]
  refine lex_val (v := ?_) rfl rfl (fun w' hf => ?_) ?_
  rotate_left
  · have q0 := hf.only.below0.cell (p := ⟨T, 0, none⟩) hT; rw [hd] at q0; go_simp
    try rfl
  try simp only [Act.put, List.setIfInBounds_toArray, List.set_cons_zero, List.set_cons_succ]
  refine lex_letter (f := 23) (args := ?_) rfl rfl (fun w' hf => ?_) (fun w' hf => ?_) ?_
  rotate_left
  · go_simp
    try rfl
  · exact (mequal_any m1 m2 n1 n2 D1 D2 w' (HM1.out.next hf.only.below0) (HM2.out.next hf.only.below0)).mono (fun e w2 ⟨⟨v, he, hv⟩, hb⟩ => ⟨_, he, ⟨v, rfl, hv⟩, trivial, hb⟩)
  try simp only [Act.put, List.setIfInBounds_toArray, List.set_cons_zero, List.set_cons_succ]
  refine lex_val (v := ?_) rfl rfl (fun w' hf => ?_) ?_
  rotate_left
  · go_simp
    try rfl
  try simp only [Act.put, List.setIfInBounds_toArray, List.set_cons_zero, List.set_cons_succ]
  refine lex_nil fun w' he => ?_
  obtain ⟨v, hv, hvi⟩ := (he.facts 8).1
  rw [hv]
  go_wp2_with fail
  go_ret
  exact ⟨⟨v, rfl, hvi⟩, he.only.below0⟩
end Go.Proofs.YtnbbepkkedhhgaaGreatDoor

namespace Go.Proofs.YtnbbepkkedhhgaaGreatDoor
open Go Go.RowKit Go.Maps

theorem StoB.only {w w' : World} {S : Nat} {m : Option Nat} {n : Nat} {D : DataW Unit} {X : List Nat} (h : StoB w S m n D) (ho : Only X w w') (hS : S ∉ X) (hm : ∀ b, m = some b → b ∉ X) : StoB w' S m n D := by
  refine ⟨(ho.block S h.1.lt hS).trans h.1, ?_⟩
  rcases h.2 with h1 | ⟨b, e, hb⟩
  · exact .inl h1
  · refine .inr ⟨b, e, ?_⟩
    have hlt := hb.lt
    obtain ⟨es, clock, hh, r⟩ := hb
    exact ⟨es, clock, (ho.block b hlt (hm b e)).trans hh, r⟩
theorem StoB.mono {w : World} {S : Nat} {m : Option Nat} {n n2 : Nat} {D : DataW Unit} (h : StoB w S m n D) (hn : n ≤ n2) : StoB w S m n2 D := ⟨h.1, by
  rcases h.2 with ⟨h1, h2⟩ | ⟨b, h1, h2⟩
  · exact .inl ⟨h1, h2⟩
  · exact .inr ⟨b, h1, h2.mono hn⟩⟩
/-- Its map lies from a height on. -/
def FarMap (B : Nat) (m : Option Nat) : Prop := ∀ b, m = some b → B ≤ b
theorem FarMap.same {B : Nat} {w : World} {m m2 : Option Nat} (h : FarMap B m) (hs : SameOrNew w m m2) (hB : B ≤ w.heap.size) : FarMap B m2 := by
  rcases hs with rfl | ⟨b, rfl, hb⟩
  · exact h
  · intro b2 e
    injection e with e
    omega
theorem own_far {B S : Nat} {m : Option Nat} (hS : B ≤ S) (hm : FarMap B m) : ∀ k ∈ ownB S m, B ≤ k := by
  intro k hk
  unfold ownB at hk
  rcases List.mem_cons.1 hk with rfl | hk
  · exact hS
  · cases m with
    | none => cases hk
    | some b => simp at hk; exact hm k (by rw [hk])
theorem own_lt {w : World} {S : Nat} {m : Option Nat} {n : Nat} {D : DataW Unit} (h : StoB w S m n D) : ∀ k ∈ ownB S m, k < w.heap.size := by
  intro k hk
  unfold ownB at hk
  rcases List.mem_cons.1 hk with rfl | hk
  · exact h.1.lt
  · cases m with
    | none => cases hk
    | some b => simp at hk; rw [hk]; exact h.2.lt
theorem tot_nil : tot (.map []) = 0 := rfl
theorem txAt_none (D : DataW Unit) (i : Int) (h : has D (kz i) = false) : (txAt D i).size = 0 := by
  rw [tx_size, atKey_of_not_has h]
  rfl
theorem putD_tot (D : DataW Unit) (hD : Tidy D) (i : Int) (s : ByteArray) : tot (putD D i s) + (txAt D i).size = tot D + s.size := by
  rw [tx_size]
  unfold putD tot
  split
  · rename_i h
    rw [h]
    exact sum_del dLen hD (kz i) noTx rfl
  · have := sum_put dLen hD (kz i) noTx (.lit (.string s.data.toList)) rfl
    rw [this]
    congr 1
theorem putD_has (D : DataW Unit) (i j : Int) (s : ByteArray) (h : j ≠ i) : has (putD D i s) (kz j) = has D (kz j) := by
  unfold putD
  split
  · exact has_del_other (kz_ne h)
  · exact has_put_other (kz_ne h) _
/-- A text that is put at a number that had none. -/
theorem defD_plain (D : DataW Unit) (i : Int) (h0 : 0 ≤ i) (h1 : i < 64) (hn : has D (kz i) = false) (d : ByteArray) :
    defD D i false false d = if d.size ≤ 6144 - tot D then (0, putD D i d) else (5, D) := by
  have hr : roomD D i false = 6144 - tot D := by
    unfold roomD
    rw [txAt_none D i hn]
    simp
  unfold defD
  rw [if_neg (by omega), hr]
  unfold takeD
  simp only [Bool.false_eq_true, if_false]
  by_cases h : d.size ≤ 6144 - tot D
  · rw [if_pos h]; simp [show ¬ (6144 - tot D < d.size) by omega]
  · rw [if_neg h]; simp [show 6144 - tot D < d.size by omega]
/-- A text that is put in the place of all. -/
theorem defD_alone (D : DataW Unit) (i : Int) (h0 : 0 ≤ i) (h1 : i < 64) (d : ByteArray) : defD D i true false d = if d.size ≤ 6144 then (0, putD (.map []) i d) else (5, D) := by
  unfold defD
  rw [if_neg (by omega)]
  have hr : roomD D i true = 6144 := rfl
  rw [hr]
  unfold takeD
  simp only [Bool.false_eq_true, if_false]
  by_cases h : d.size ≤ 6144
  · rw [if_pos h]; simp [show ¬ (6144 < d.size) by omega]
  · rw [if_neg h]; simp [show 6144 < d.size by omega]

theorem putD_at (D : DataW Unit) (hD : IsMap D) (i : Int) (s : ByteArray) : txAt (putD D i s) i = s ∧ has (putD D i s) (kz i) = decide (s.size ≠ 0) := by
  unfold putD
  split
  · rename_i h
    refine ⟨?_, by rw [has_del_same]; simp [h]⟩
    unfold txAt
    rw [atKey_del_same]
    exact ((bytes_eq_empty s).2 h).symm
  · rename_i h
    refine ⟨?_, by rw [has_put_same hD (kz_key i)]; simp [h]⟩
    unfold txAt
    rw [atKey_put_same hD (kz_key i)]
    show (⟨s.data.toList.toArray⟩ : ByteArray) = s
    rw [Array.toArray_toList]
def zeroB (n : Nat) : ByteArray := bstr (List.replicate n 0)
theorem zeroB_size (n : Nat) : (zeroB n).size = n := by unfold zeroB; rw [bstr_size, List.length_replicate]
theorem made_conv (w : World) (n : Nat) : (convert 59 9 (.slice (some ⟨w.heap.size, 0, none⟩) n n)).run Tryz.prog (w.alloc (.cells (madeCells #[.int .u8 0] n) 5)) = .ok (.string (zeroB n)) (w.alloc (.cells (madeCells #[.int .u8 0] n) 5)) := by
  have hr : RByt (w.alloc (.cells (madeCells #[.int .u8 0] n) 5)) (some ⟨w.heap.size, 0, none⟩) (List.replicate n 0) := by
    refine ⟨by simp, fun _ => ⟨_, rfl, by simp, fun j u hu => ?_⟩⟩
    have hadd : (⟨w.heap.size, 0, none⟩ : Addr).add j = ⟨w.heap.size, j, none⟩ := by unfold Addr.add; split <;> simp_all
    rw [hadd, (Blk.new w _ _).cell j]
    have hj : j < n := by
      rcases Nat.lt_or_ge j n with h | h
      · exact h
      · rw [List.getElem?_eq_none (by simp; omega)] at hu; cases hu
    have hu2 : u = .int .u8 0 := by simpa [hj] using hu.symm
    rw [hu2]
    simp [madeCells, hj, Nat.mod_one]
  have := conv_by hr n
  rw [List.length_replicate] at this
  exact this
end Go.Proofs.YtnbbepkkedhhgaaGreatDoor

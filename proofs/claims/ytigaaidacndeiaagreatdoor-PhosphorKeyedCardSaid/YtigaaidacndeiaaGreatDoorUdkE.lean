/-
  A range over an iterator that keeps one variable of its own in a box (it turns that box between two rounds, and makes new blocks; nothing else).
  A text's pieces between semicolons, as strings.SplitSeq yields them.
  Keys take their texts out of a text of definitions.
-/
import Derived.Test.YtigaaidacndeiaaGreatDoorProg
import Derived.RangeFuncFrom
import Derived.RangeFuncNested
import Derived.Test.YtigaaidacndeiaaGreatDoorUdkC
import Derived.Test.YtigaaidacndeiaaGreatDoorMacA
import Derived.RangeFuncBound
import Derived.RangeFuncCalls
import Derived.RangeFuncLeaves
import Derived.Shelf.Abstract
import Derived.Shelf.RegionOpen
import Derived.OwnWalkIn
import Derived.TacticsInMore
import Derived.LoopNIn
import Derived.LoopIn
namespace Go.Proofs.YtigaaidacndeiaaGreatDoor

open Go Go.RowKit

/-- It stays where block b turns, and where memory is made. -/
def Keeps1 {β : Type} (b : Nat) (J : β → World → Prop) : Prop := ∀ s A B, J s A → A.grownBy B (some b) → J s B
/-- An iterator's promise to whoever ranges over it: J goes from round to round, whatever becomes of block b meanwhile. -/
def SeqB {α : Type} (F : Fence) (n : Nat) (P : Program) (g : Nat) (lb : Array Value) (encs : α → Array Value) (Kp : World → World → Prop) (b : Nat) (S Sp : List α → Prop) (N : Nat) (w : World) : Prop :=
  ∀ (l : Nat) (J Jx : List α → World → Prop) (W : World), Below w.heap.size w W → Keeps1 b J → Keeps1 b Jx →
    (∀ pre x A, J pre A → pre.length < N → YieldAt F (n - 1) P l (encs x) A fun e B =>
      (e = .returned (.bool true) ∧ J (pre ++ [x]) B ∧ Kp A B) ∨ (e = .returned (.bool false) ∧ Jx (pre ++ [x]) B)) →
    J [] W →
    CallsIn F n P g (#[.func (.yield l) #[] #[]] ++ lb) W fun e B => (∃ v, e = .returned v) ∧ ((∃ xs, S xs ∧ J xs B) ∨ (∃ pre, Sp pre ∧ Jx pre B))
/-- How a round is left. -/
def roundB {α : Type} (Kp : World → World → Prop) (I Ix : List α → World → Prop) (xs : List α) (W : World) : Exit → Act → World → Prop
  | .normal, _, B => KeepsOthers W B ∧ Kp W B ∧ I xs B
  | .ret, _, B => KeepsOthers W B ∧ Ix xs B
  | _, _, _ => False
/-- What the caller keeps from round to round abides: block b, and blocks from z on that hold no cells. -/
def Keeps2 {β : Type} (b z : Nat) (I : β → World → Prop) : Prop :=
  ∀ s A B row, I s A → A.grownBy B row → (∀ r, row = some r → r = b ∨ (z ≤ r ∧ ∃ o : Obj, A.heap[r]? = some o ∧ o.isCells = false)) → I s B
theorem Keeps2.put {β : Type} {b z : Nat} {I : β → World → Prop} (h : Keeps2 b z I) {s : β} {W : World} {l : Nat} {o : Obj} (o' : Obj) (hs : I s W) (hB : z ≤ l) (hl : W.heap[l]? = some o) (ho : o.isCells = false) : I s (W.putObj l o') :=
  h s W _ (some l) hs (grownBy_putObj' W l o') (fun r e => by cases e; exact .inr ⟨hB, o, hl, ho⟩)
theorem Keeps2.new {β : Type} {b z : Nat} {I : β → World → Prop} (h : Keeps2 b z I) {s : β} {W : World} (o : Obj) (hs : I s W) : I s (W.alloc o) :=
  h s W _ none hs (World.grownBy_alloc W o none) (fun r e => by cases e)
theorem Keeps2.and {β : Type} {b z : Nat} {I J : β → World → Prop} (h : Keeps2 b z I) (k : Keeps2 b z J) : Keeps2 b z (fun s W => I s W ∧ J s W) := fun s A B row hs hg hr => ⟨h s A B row hs.1 hg hr, k s A B row hs.2 hg hr⟩

theorem wpIn_rangeB {F : Fence} {n : Nat} {P : Program} {α : Type} {g : Operand} {ps : Array Tmp} {assign body : Code} {Q : Exit → Act → World → Prop} {a : Act} {w : World}
    (hro : F.round = none) (h1 : 1 ≤ n) {gf : Nat} {lb : Array Value} (hg : a.eval g = .func (.func gf) #[] lb) (hFg : F.fn gf) (eg : ∀ args w, (callFunc gf args).run P w = .ok (.enter gf args) w)
    {encs : α → Array Value} {Kp : World → World → Prop} {b : Nat} {S Sp : List α → Prop} {N : Nat} {w0 : World} (hseq : SeqB F (n - 1) P gf lb encs Kp b S Sp N w0)
    (hKt : ∀ {A B C : World}, Kp A B → Kp B C → Kp A C) (hKb : ∀ (W : World) (l : Nat) (o o' : Obj), w.heap.size ≤ l → W.heap[l]? = some o → o.isCells = false → Kp W (W.putObj l o')) (hb0 : Below w0.heap.size w0 w) (hbw : b < w.heap.size) (hps : ∀ x, (encs x).size = ps.size)
    (I Ix : List α → World → Prop) (hI : Keeps2 b w.heap.size I) (hIx : Keeps2 b w.heap.size Ix) (h0 : I [] w) (a₁ : α → Act)
    (hassign : ∀ (l : Nat) (x : α) (W : World) (K : Act → World → Prop), K (a₁ x) W →
      assign.wpIn (F.inRound l) (n - 1 - 1) P (Exit.then K (fun _ _ _ => False)) { tmps := (ps.zip (encs x)).foldl (fun t (p, v) => t.setIfInBounds p v) a.tmps, defers := [] } W)
    (hbody : ∀ (l : Nat) (pre : List α) (x : α) (W : World), I pre W → pre.length < N → body.wpIn (F.inRound l) (n - 1 - 1) P (roundB Kp I Ix (pre ++ [x]) W) (a₁ x) W)
    (hdone : ∀ (D : Nat) (xs : List α) (W : World), w.heap.size ≤ D → S xs → I xs W → W.heap[D]? = some (.deferred (some [])) → Q .normal { a with defers := { target := .collected D, args := #[] } :: a.defers } W)
    (hstop : ∀ (D : Nat) (pre : List α) (W : World), w.heap.size ≤ D → Sp pre → Ix pre W → W.heap[D]? = some (.deferred (some [])) → Code.ret.wpIn F n P Q { a with defers := { target := .collected D, args := #[] } :: a.defers } W) :
    (Code.rangeFunc g ps assign body).wpIn F n P Q a w := by
  refine wpIn_rangeFunc fun fn hfn => ?_
  rw [hro]
  obtain ⟨z, hz⟩ : ∃ z, z = w.heap.size := ⟨_, rfl⟩
  -- the loop's record
  obtain ⟨lp, hlp⟩ : ∃ lp : LoopState → Option Code → Loop, lp = fun st pe => { state := st, pending := pe, fn, tmps := a.tmps, params := ps, assign, body, defers := z } := ⟨_, rfl⟩
  obtain ⟨V, hV⟩ : ∃ V, V = (w.alloc (.deferred (some []))).alloc (.loop (lp .ready none)) := ⟨_, rfl⟩
  have hVl : V.heap[z + 1]? = some (.loop (lp .ready none)) := by
    have h := World.alloc_heap_new (w.alloc (.deferred (some []))) (.loop (lp .ready none))
    rw [World.size_alloc, ← hz, ← hV] at h; exact h
  have hVd : V.heap[z]? = some (.deferred (some [])) := by
    rw [hV, hz]; exact (Below.heap_alloc _ _ _ (by simp)).trans (World.alloc_heap_new w _)
  have hVb : Below w0.heap.size w0 V := by
    rw [hV]; exact hb0.trans ((((Below.refl _ w).alloc (Nat.le_refl _) _).alloc (by simp) _).mono hb0.size)
  refine ⟨z + 1, [{ target := .collected z, args := #[] }], V, { target := .fn (.func gf) lb, args := #[.func (.yield (z + 1)) #[] #[]] }, V, gf, #[.func (.yield (z + 1)) #[] #[]] ++ lb, V, ?_, ?_, ?_, ?_, fun _ => h1, ?_⟩
  · rw [hV, hlp, hz]; exact run_enterLoop_outer _ _ _ _ _
  · simp only [resolve, hg]; simp [go_sem]
  · intro f' hf'; simp [Target.leads] at hf'; subst hf'; exact hFg
  · simp [invoke, go_sem, eg]
  -- the two blocks of the loop's own stay
  have keep : ∀ {A B : World} {k : Nat} {o : Obj}, A.grownBy B (some b) → w.heap.size ≤ k → A.heap[k]? = some o → B.heap[k]? = some o := fun {A B k o} h hk ho =>
    (h.block k (Array.getElem?_eq_some_iff.1 ho).1 (fun e => by cases e; omega)).trans ho
  refine (hseq (z + 1) (fun pre W => I pre W ∧ W.heap[z + 1]? = some (.loop (lp .ready none)) ∧ W.heap[z]? = some (.deferred (some [])))
    (fun pre W => Ix pre W ∧ W.heap[z + 1]? = some (.loop (lp .done (some .ret))) ∧ W.heap[z]? = some (.deferred (some []))) V hVb
    (fun s A B hs h => ⟨hI s A B _ hs.1 h (fun r e => by cases e; exact .inl rfl), keep h (by omega) hs.2.1, keep h (by omega) hs.2.2⟩)
    (fun s A B hs h => ⟨hIx s A B _ hs.1 h (fun r e => by cases e; exact .inl rfl), keep h (by omega) hs.2.1, keep h (by omega) hs.2.2⟩)
    ?round ⟨by rw [hV]; exact hI.new _ (hI.new _ h0), hVl, hVd⟩).mono ?behind
  case round =>
    rintro pre x W ⟨hi, hl, hd⟩ hlen
    obtain ⟨busy, hbusy⟩ : ∃ busy : Obj, busy = .loop { lp .ready none with state := .busy } := ⟨_, rfl⟩
    have hlt : z + 1 < W.heap.size := (Array.getElem?_eq_some_iff.1 hl).1
    have hy := run_yield (P := P) (args := encs x) hl (by rw [hlp]; exact hps x)
    rw [hlp] at hy
    refine ⟨fn, _, assign, body, hy, roundIn_of_wpIn hfn (hassign _ x W _ ⟨_, run_beginRound hl (by rw [hlp]), ?_⟩)⟩
    rw [← hbusy]
    have hl2 : (W.putObj (z + 1) busy).heap[z + 1]? = some busy := World.putObj_heap_same hlt
    have hd2 : (W.putObj (z + 1) busy).heap[z]? = some (.deferred (some [])) := (World.putObj_heap_other (by omega)).trans hd
    have hKw : Kp W (W.putObj (z + 1) busy) := hKb _ _ _ _ (by omega) hl rfl
    refine wpIn_mono (hbody _ pre x _ (hI.put _ hi (by omega) hl rfl) hlen) ?_
    have fin : ∀ (jump : Option Code) (X : World), KeepsOthers (W.putObj (z + 1) busy) X →
        X.heap[z + 1]? = some busy ∧ (Instr.endRound (z + 1) jump).run P X = .ok (.bool jump.isNone) (X.putObj (z + 1) (.loop (lp (if jump.isNone then .ready else .done) jump))) ∧
        (X.putObj (z + 1) (.loop (lp (if jump.isNone then .ready else .done) jump))).heap[z + 1]? = some (.loop (lp (if jump.isNone then .ready else .done) jump)) ∧
        (X.putObj (z + 1) (.loop (lp (if jump.isNone then .ready else .done) jump))).heap[z]? = some (.deferred (some [])) := fun jump X hk => by
      have hl3 : X.heap[z + 1]? = some busy := hk.same _ _ hl2 (by rw [hbusy]; rfl)
      refine ⟨hl3, ?_, World.putObj_heap_same (Array.getElem?_eq_some_iff.1 hl3).1, (World.putObj_heap_other (by omega)).trans (hk.same _ _ hd2 rfl)⟩
      have h := run_endRound (P := P) jump (show X.heap[z + 1]? = some (.loop { lp .ready none with state := .busy }) by rw [hl3, hbusy])
      rw [hlp] at h ⊢
      exact h
    rintro e a3 X hp
    cases e with
    | normal =>
      obtain ⟨hk, hkp, hi3⟩ := hp
      obtain ⟨hl3, hr, hl4, hd4⟩ := fin none X hk
      exact ⟨_, _, hr, .inl ⟨rfl, ⟨hI.put _ hi3 (by omega) hl3 (by rw [hbusy]; rfl), hl4, hd4⟩, hKt (hKt hKw hkp) (hKb _ _ _ _ (by omega) hl3 (by rw [hbusy]; rfl))⟩⟩
    | ret =>
      obtain ⟨hk, hi3⟩ := hp
      obtain ⟨hl3, hr, hl4, hd4⟩ := fin (some .ret) X hk
      exact ⟨_, _, hr, .inr ⟨rfl, hIx.put _ hi3 (by omega) hl3 (by rw [hbusy]; rfl), hl4, hd4⟩⟩
    | exit id => exact hp.elim
    | goto t => exact hp.elim
    | panic ch => exact hp.elim
    | outgrown => exact hp.elim
  case behind =>
    rintro e X ⟨⟨v, rfl⟩, (⟨xs, hS, hi, hl, hd⟩ | ⟨pre, hSp, hi, hl, hd⟩)⟩
    · exact ⟨none, _, by have h := run_endLoop (P := P) hl (by rw [hlp]; simp); rw [hlp] at h; exact h, hdone z xs _ (by omega) hS (hI.put _ hi (by omega) hl rfl) ((World.putObj_heap_other (by omega)).trans hd)⟩
    · exact ⟨some .ret, _, by have h := run_endLoop (P := P) hl (by rw [hlp]; simp); rw [hlp] at h; exact h, hstop z pre _ (by omega) hSp (hIx.put _ hi (by omega) hl rfl) ((World.putObj_heap_other (by omega)).trans hd)⟩
end Go.Proofs.YtigaaidacndeiaaGreatDoor

namespace Go.Proofs.YtigaaidacndeiaaGreatDoor

open Go Go.RowKit Go.Shelf
attribute [local go_sem] Oper.semAt_some

/-- What stands between semicolons. -/
def pcs : List Nat → List (List Nat)
  | [] => [[]]
  | c :: l => if c = 59 then [] :: pcs l else match pcs l with
    | [] => [[c]]
    | p :: ps => (c :: p) :: ps
theorem pcs_semi (l : List Nat) : pcs (59 :: l) = [] :: pcs l := if_pos rfl
theorem pcs_cons (c : Nat) (l : List Nat) (h : c ≠ 59) (p : List Nat) (ps : List (List Nat)) (e : pcs l = p :: ps) : pcs (c :: l) = (c :: p) :: ps := by unfold pcs; rw [if_neg h, e]
theorem pcs_no (l : List Nat) (h : ∀ c ∈ l, c ≠ 59) : pcs l = [l] := by
  induction l with
  | nil => rfl
  | cons c l ih => exact pcs_cons c l (h c (by simp)) l [] (ih fun x hx => h x (by simp [hx]))
theorem pcs_yes (p r : List Nat) (h : ∀ c ∈ p, c ≠ 59) : pcs (p ++ 59 :: r) = p :: pcs r := by
  induction p with
  | nil => exact pcs_semi r
  | cons c p ih => exact pcs_cons c _ (h c (by simp)) p (pcs r) (ih fun x hx => h x (by simp [hx]))
/-- A text's bytes. -/
abbrev nb (s : ByteArray) : List Nat := natL s.data.toList
theorem pcs_last (s : ByteArray) (h : Lib.indexByte s.data.toList 59 = -1) : pcs (nb s) = [nb s] := by
  rcases idx59 s.data.toList with ⟨_, h2⟩ | ⟨i, h1, _⟩
  · exact pcs_no _ fun c hc => by
      unfold nb natL at hc
      obtain ⟨u, hu, rfl⟩ := List.mem_map.1 hc
      exact fun e => h2 u hu (UInt8.toNat_inj.1 e)
  · omega
theorem pcs_next (s : ByteArray) (i : Nat) (h : Lib.indexByte s.data.toList 59 = i) : i < s.size ∧ pcs (nb s) = nb (s.extract 0 i) :: pcs (nb (s.extract (i + 1) s.size)) := by
  rcases idx59 s.data.toList with ⟨h1, _⟩ | ⟨j, h1, h2, h3, h4⟩
  · omega
  · obtain rfl : j = i := by omega
    have hi : j < s.size := by rw [← natB_len, natL_len]; exact h2
    refine ⟨hi, ?_⟩
    have e1 : nb (s.extract 0 j) = natL (s.data.toList.take j) := by
      unfold nb; rw [natL_ext, List.drop_zero]; unfold natL; rw [List.map_take]
    have e2 : nb (s.extract (j + 1) s.size) = natL (s.data.toList.drop (j + 1)) := by
      unfold nb; rw [natL_ext, List.take_of_length_le (by rw [natB_len]; exact Nat.le_refl _)]; unfold natL; rw [List.map_drop]
    rw [e1, e2]
    have e3 : nb s = natL (s.data.toList.take j) ++ 59 :: natL (s.data.toList.drop (j + 1)) := by
      unfold nb
      conv => lhs; rw [h3]
      unfold natL
      rw [List.map_append, List.map_cons]
      rfl
    rw [e3]
    exact pcs_yes _ _ fun c hc => by
      unfold natL at hc
      obtain ⟨u, hu, rfl⟩ := List.mem_map.1 hc
      exact fun e => h4 u hu (UInt8.toNat_inj.1 e)

/-- A piece: no longer than may come in. -/
abbrev Pc := { s : ByteArray // s.size ≤ 100000 }

/-- The world with the iterator's three boxes. -/
def seqW (w : World) (s : ByteArray) : World := ((w.alloc (.cells #[.string s] 9)).alloc (.cells #[.string ⟨#[59]⟩] 9)).alloc (.cells #[.int .i64 0] 3)


/-- What a round of the caller's keeps: the iterator's three boxes. -/
def KpS (b : Nat) (A B : World) : Prop := A.heap.size ≤ B.heap.size ∧ ∀ k, b ≤ k → k < b + 3 → B.heap[k]? = A.heap[k]?
theorem KpS.trans {b : Nat} {A B C : World} (h : KpS b A B) (k : KpS b B C) : KpS b A C := ⟨Nat.le_trans h.1 k.1, fun i h1 h2 => (k.2 i h1 h2).trans (h.2 i h1 h2)⟩
/-- The iterator's boxes, r being left. -/
def SeqR (b : Nat) (r : ByteArray) (W : World) : Prop := Blk W b 9 #[.string r] ∧ Blk W (b + 1) 9 #[.string ⟨#[59]⟩] ∧ Blk W (b + 2) 3 #[.int .i64 0]
theorem SeqR.kept {b : Nat} {r : ByteArray} {A B : World} (h : SeqR b r A) (k : KpS b A B) : SeqR b r B :=
  ⟨(k.2 b (Nat.le_refl _) (by omega)).trans h.1, (k.2 (b + 1) (by omega) (by omega)).trans h.2.1, (k.2 (b + 2) (by omega) (by omega)).trans h.2.2⟩
theorem SeqR.set {b : Nat} {r : ByteArray} {A : World} (h : SeqR b r A) (t : ByteArray) : SeqR b t (A.setCell ⟨b, 0, none⟩ (.string t)) :=
  ⟨by have := h.1.set_ 0 (.string t); simpa using this, h.2.1.far (by show b + 1 ≠ b; omega) _, h.2.2.far (by show b + 2 ≠ b; omega) _⟩
/-- How much is left. -/
def leftS (b : Nat) (W : World) : Nat := match W.cell? ⟨b, 0, none⟩ with
  | some (.string r) => r.size
  | _ => 0
theorem leftS_eq {b : Nat} {r : ByteArray} {W : World} (h : SeqR b r W) : leftS b W = r.size := by
  unfold leftS
  rw [h.1.cell 0]
  rfl


theorem seqR_new (w : World) (s : ByteArray) : SeqR w.heap.size s (seqW w s) := by
  refine ⟨((Blk.new w _ _).alloc _).alloc _, ?_, ?_⟩
  · have h := (Blk.new (w.alloc (.cells #[.string s] 9)) 9 #[.string ⟨#[59]⟩]).alloc (.cells #[.int .i64 0] 3)
    rw [World.size_alloc] at h
    exact h
  · have h := Blk.new ((w.alloc (.cells #[.string s] 9)).alloc (.cells #[.string ⟨#[59]⟩] 9)) 3 #[.int .i64 0]
    rw [World.size_alloc, World.size_alloc] at h
    exact h
theorem seqW_size (w : World) (s : ByteArray) : (seqW w s).heap.size = w.heap.size + 3 := by simp [seqW]
theorem seqW_below {B : Nat} {a w : World} (h : Below B a w) (hB : B ≤ w.heap.size) (s : ByteArray) : Below B a (seqW w s) :=
  ((h.alloc hB _).alloc (by simp; omega) _).alloc (by simp; omega) _
theorem seqW_blk {w : World} {b : Nat} {t : TypeId} {cs : Array Value} (h : Blk w b t cs) (s : ByteArray) : Blk (seqW w s) b t cs := ((h.alloc _).alloc _).alloc _

end Go.Proofs.YtigaaidacndeiaaGreatDoor

namespace Go.Proofs.YtigaaidacndeiaaGreatDoor

open Go Go.RowKit Go.Shelf
attribute [local go_sem] Oper.semAt_some

theorem grown_of_below {w w' : World} {r : Option Nat} (h : Below w.heap.size w w') : w.grownBy w' r := ⟨h.os, h.tape, h.output, h.size, fun k hk _ => h.block k hk⟩
/-- Keys in memory: fifteen texts, and are they locked? -/
def keyC (T : List ByteArray) (lk : Bool) : Array Value := (T.map Value.string ++ [Value.bool lk]).toArray
def KeyB (w : World) (K : Nat) (T : List ByteArray) (lk : Bool) : Prop := Blk w K 41 (keyC T lk) ∧ T.length = 15
theorem keyC_at (T : List ByteArray) (lk : Bool) (k : Nat) (h : k < T.length) : (keyC T lk)[k]? = some (.string T[k]) := by
  unfold keyC
  rw [List.getElem?_toArray, List.getElem?_append_left (by simpa using h)]
  simp [h]
theorem keyC_set (T : List ByteArray) (lk : Bool) (k : Nat) (h : k < T.length) (t : ByteArray) : (keyC T lk).setIfInBounds k (.string t) = keyC (T.set k t) lk := by
  unfold keyC
  rw [List.setIfInBounds_toArray, List.set_append_left _ _ (by simpa using h), List.map_set]
theorem KeyB.text {w : World} {K : Nat} {T : List ByteArray} {lk : Bool} (h : KeyB w K T lk) (k : Nat) (hk : k < 15) : w.cell? ⟨K, k, none⟩ = some (.string (T[k]'(by rw [h.2]; exact hk))) := by
  rw [h.1.cell k]; exact keyC_at T lk k _
theorem KeyB.put {w : World} {K : Nat} {T : List ByteArray} {lk : Bool} (h : KeyB w K T lk) (k : Nat) (hk : k < 15) (t : ByteArray) : KeyB (w.setCell ⟨K, k, none⟩ (.string t)) K (T.set k t) lk :=
  ⟨by have := h.1.set_ k (.string t); rwa [keyC_set T lk k (by rw [h.2]; exact hk)] at this, by rw [List.length_set]; exact h.2⟩

/-- What a definition says. -/
def defS (x : List Nat) : Option (Nat × List Nat) := defP (puK (bstr (cutQ x).1)) (cutQ x).2.2 (cutQ x).2.1
def stepU (T : List ByteArray) (x : List Nat) : Option (List ByteArray) := if x = [] then some T else (defS x).map fun p => T.set p.1 (bstr p.2)
def takeU (T : List ByteArray) (l : List (List Nat)) : Option (List ByteArray) := l.foldl (fun o x => o.bind fun T => stepU T x) (some T)
theorem takeU_snoc (T : List ByteArray) (l : List (List Nat)) (x : List Nat) : takeU T (l ++ [x]) = (takeU T l).bind fun T => stepU T x := by unfold takeU; rw [List.foldl_append]; rfl
theorem takeU_sn (T : List ByteArray) (pre : List Pc) (x : Pc) : takeU T ((pre ++ [x]).map fun x => nb x.1) = (takeU T (pre.map fun x => nb x.1)).bind fun T => stepU T (nb x.1) := by
  rw [List.map_append]; exact takeU_snoc T _ _
theorem takeU_none (T : List ByteArray) (p l : List (List Nat)) (hp : p <+: l) (h : takeU T p = none) : takeU T l = none := by
  obtain ⟨q, rfl⟩ := hp
  unfold takeU at h ⊢
  rw [List.foldl_append, h]
  induction q with
  | nil => rfl
  | cons x q ih => exact ih
theorem defS_lt (x : List Nat) (k : Nat) (b : List Nat) (h : defS x = some (k, b)) : k < 15 := by
  unfold defS defP at h
  split at h
  · split at h
    · rename_i key _ hc
      have := plc_le (key : Int)
      cases hf : fhL (cutQ x).2.1 with
      | none => rw [hf] at h; cases h
      | some z => rw [hf] at h; injection h with h; injection h with h1 h2; omega
    · cases h
  · cases h





theorem grown_far {A B C : World} {K : Nat} {row : Option Nat} (h : A.grownBy B (some K)) (k : B.grownBy C row) (hr : ∀ r, row = some r → A.heap.size ≤ r ∨ r = K) : A.grownBy C (some K) :=
  ⟨k.os.trans h.os, k.tape.trans h.tape, k.output.trans h.output, Nat.le_trans h.size k.size, fun i hi hne => (k.block i (Nat.lt_of_lt_of_le hi h.size) (fun e => by
    rcases hr i e.symm with h' | h'
    · omega
    · exact hne (by rw [h']))).trans (h.block i hi hne)⟩
theorem grown_b {A B : World} {n K : Nat} (hb : Below n A B) (hn : A.heap.size ≤ n) : A.grownBy B (some K) := ⟨hb.os, hb.tape, hb.output, hb.size, fun i hi _ => hb.block i (by omega)⟩

theorem setCell_grown (W : World) (b i : Nat) (v : Value) : W.grownBy (W.setCell ⟨b, i, none⟩ v) (some b) :=
  ⟨rfl, rfl, rfl, by simp [World.setCell], fun k _ hne => Below.heap_setCell W ⟨b, i, none⟩ v k (fun e => hne (by rw [e]))⟩
theorem setCell_size (W : World) (a : Addr) (v : Value) : (W.setCell a v).heap.size = W.heap.size := by simp [World.setCell]
/-- What take keeps from round to round. -/
def TkI (w : World) (K : Nat) (T : List ByteArray) (lk : Bool) (pre : List Pc) (W : World) : Prop :=
  (∃ T', takeU T (pre.map fun x => nb x.1) = some T' ∧ KeyB W K T' lk) ∧ Blk W w.heap.size 50 #[.pointer (some ⟨K, 0, none⟩)] ∧ Blk W (w.heap.size + 1) 81 #[.int .i64 0] ∧ w.grownBy W (some K) ∧ w.heap.size + 5 ≤ W.heap.size
def TkX (w : World) (K : Nat) (T : List ByteArray) (lk : Bool) (pre : List Pc) (W : World) : Prop :=
  (takeU T (pre.map fun x => nb x.1) = none ∧ ∃ T', KeyB W K T' lk) ∧ Blk W (w.heap.size + 1) 81 #[.int .i64 3] ∧ w.grownBy W (some K)
theorem tkI_keeps (w : World) (K : Nat) (hK : K < w.heap.size) (T : List ByteArray) (lk : Bool) (b z : Nat) (hb : b = w.heap.size + 2) (hz : z = w.heap.size + 5) : Keeps2 b z (TkI w K T lk) := by
  rintro s A B row ⟨⟨T', h1, h2, h3⟩, h4, h5, h6, h7⟩ hg hr
  have far : ∀ r, row = some r → w.heap.size + 2 ≤ r := fun r e => by rcases hr r e with h | ⟨h, _⟩ <;> omega
  have ne : ∀ k, k < w.heap.size + 2 → some k ≠ row := fun k hk e => by have := far k e.symm; omega
  exact ⟨⟨T', h1, h2.grown hg (ne _ (by omega)), h3⟩, h4.grown hg (ne _ (by omega)), h5.grown hg (ne _ (by omega)), grown_far h6 hg fun r e => .inl (by have := far r e; omega), Nat.le_trans h7 hg.size⟩
theorem tkX_keeps (w : World) (K : Nat) (hK : K < w.heap.size) (T : List ByteArray) (lk : Bool) (b z : Nat) (hb : b = w.heap.size + 2) (hz : z = w.heap.size + 5) : Keeps2 b z (TkX w K T lk) := by
  rintro s A B row ⟨⟨h1, T', h2, h3⟩, h5, h6⟩ hg hr
  have far : ∀ r, row = some r → w.heap.size + 2 ≤ r := fun r e => by rcases hr r e with h | ⟨h, _⟩ <;> omega
  have ne : ∀ k, k < w.heap.size + 2 → some k ≠ row := fun k hk e => by have := far k e.symm; omega
  exact ⟨⟨h1, T', h2.grown hg (ne _ (by omega)), h3⟩, h5.grown hg (ne _ (by omega)), grown_far h6 hg fun r e => .inl (by have := far r e; omega)⟩
/-- What take answers. -/
def TakeQ (o : Option (List ByteArray)) (K : Nat) (lk : Bool) (e : Ending) (W : World) : Prop := match o with
  | some T' => e = .returned (.int .i64 0) ∧ KeyB W K T' lk
  | none => e = .returned (.int .i64 3) ∧ ∃ T', KeyB W K T' lk



end Go.Proofs.YtigaaidacndeiaaGreatDoor

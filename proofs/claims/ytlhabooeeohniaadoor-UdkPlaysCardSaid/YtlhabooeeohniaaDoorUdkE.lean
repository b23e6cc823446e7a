/-
  A range over an iterator that keeps one variable of its own in a box (it turns that box between two rounds, and makes new blocks; nothing else).
  A text's pieces between semicolons, as strings.SplitSeq yields them.
  Keys take their texts out of a text of definitions.
-/
import Derived.Test.YtlhabooeeohniaaDoorProg
import Derived.RangeFuncFrom
import Derived.RangeFuncNested
import Derived.Test.YtlhabooeeohniaaDoorUdkC
import Derived.Test.YtlhabooeeohniaaDoorMacA
import Derived.RangeFuncBound
import Derived.RangeFuncCalls
import Derived.RangeFuncLeaves
import Derived.Shelf.Abstract
import Derived.Shelf.RegionOpen
import Derived.OwnWalkIn
import Derived.TacticsInMore
import Derived.LoopNIn
import Derived.LoopIn
namespace Go.Proofs.YtlhabooeeohniaaDoor
open Go Go.RowKit

/-- It stays where block b turns, and where memory is made. -/
def Keeps1 {β : Type} (b : Nat) (J : β → World → Prop) : Prop := ∀ s A B, J s A → A.grownBy B (some b) → J s B
/-- An iterator's promise to whoever ranges over it: J goes from round to round, whatever becomes of block b meanwhile. -/
def SeqB {α : Type} (F : Fence) (n : Nat) (P : Program) (g : Nat) (lb : Array Value) (encs : α → Array Value) (Kp : World → World → Prop) (b : Nat) (S Sp : List α → Prop) (N : Nat) (w : World) : Prop :=
  ∀ (l : Nat) (J Jx : List α → World → Prop) (W : World), Below w.heap.size w W → Keeps1 b J → Keeps1 b Jx →
    (∀ pre x A, J pre A → pre.length < N → YieldAt F (n - 1) P l (encs x) A fun e B =>
      (e = .returned (.bool true) ∧ J (pre ++ [x]) B ∧ Kp A B) ∨ (e = .returned (.bool false) ∧ Jx (pre ++ [x]) B)) →
    J [] W →
    CallsIn F n P g (#[.func (.yield l) #[] #[]] ++ lb) W fun e B => (∃ v, e = .returned v) ∧ ((∃ xs, S xs ∧ J xs B) ∨ (∃ pre, Sp pre ∧ Jx pre B))
/-- How a round is left. -/
def roundB {α : Type} (Kp : World → World → Prop) (I Ix : List α → World → Prop) (xs : List α) (W : World) : Exit → Act → World → Prop
  | .normal, _, B => KeepsOthers W B ∧ Kp W B ∧ I xs B
  | .ret, _, B => KeepsOthers W B ∧ Ix xs B
  | _, _, _ => False
/-- What the caller keeps from round to round abides: block b, and blocks from z on that hold no cells. -/
def Keeps2 {β : Type} (b z : Nat) (I : β → World → Prop) : Prop :=
  ∀ s A B row, I s A → A.grownBy B row → (∀ r, row = some r → r = b ∨ (z ≤ r ∧ ∃ o : Obj, A.heap[r]? = some o ∧ o.isCells = false)) → I s B
theorem Keeps2.put {β : Type} {b z : Nat} {I : β → World → Prop} (h : Keeps2 b z I) {s : β} {W : World} {l : Nat} {o : Obj} (o' : Obj) (hs : I s W) (hB : z ≤ l) (hl : W.heap[l]? = some o) (ho : o.isCells = false) : I s (W.putObj l o') :=
  h s W _ (some l) hs (grownBy_putObj' W l o') (fun r e => by cases e; exact .inr ⟨hB, o, hl, ho⟩)
theorem Keeps2.new {β : Type} {b z : Nat} {I : β → World → Prop} (h : Keeps2 b z I) {s : β} {W : World} (o : Obj) (hs : I s W) : I s (W.alloc o) :=
  h s W _ none hs (World.grownBy_alloc W o none) (fun r e => by cases e)
theorem Keeps2.and {β : Type} {b z : Nat} {I J : β → World → Prop} (h : Keeps2 b z I) (k : Keeps2 b z J) : Keeps2 b z (fun s W => I s W ∧ J s W) := fun s A B row hs hg hr => ⟨h s A B row hs.1 hg hr, k s A B row hs.2 hg hr⟩

theorem wpIn_rangeB {F : Fence} {n : Nat} {P : Program} {α : Type} {g : Operand} {ps : Array Tmp} {assign body : Code} {Q : Exit → Act → World → Prop} {a : Act} {w : World}
    (hro : F.round = none) (h1 : 1 ≤ n) {gf : Nat} {lb : Array Value} (hg : a.eval g = .func (.func gf) #[] lb) (hFg : F.fn gf) (eg : ∀ args w, (callFunc gf args).run P w = .ok (.enter gf args) w)
    {encs : α → Array Value} {Kp : World → World → Prop} {b : Nat} {S Sp : List α → Prop} {N : Nat} {w0 : World} (hseq : SeqB F (n - 1) P gf lb encs Kp b S Sp N w0)
    (hKt : ∀ {A B C : World}, Kp A B → Kp B C → Kp A C) (hKb : ∀ (W : World) (l : Nat) (o o' : Obj), w.heap.size ≤ l → W.heap[l]? = some o → o.isCells = false → Kp W (W.putObj l o')) (hb0 : Below w0.heap.size w0 w) (hbw : b < w.heap.size) (hps : ∀ x, (encs x).size = ps.size)
    (I Ix : List α → World → Prop) (hI : Keeps2 b w.heap.size I) (hIx : Keeps2 b w.heap.size Ix) (h0 : I [] w) (a₁ : α → Act)
    (hassign : ∀ (l : Nat) (x : α) (W : World) (K : Act → World → Prop), K (a₁ x) W →
      assign.wpIn (F.inRound l) (n - 1 - 1) P (Exit.then K (fun _ _ _ => False)) { tmps := (ps.zip (encs x)).foldl (fun t (p, v) => t.setIfInBounds p v) a.tmps, defers := [] } W)
    (hbody : ∀ (l : Nat) (pre : List α) (x : α) (W : World), I pre W → pre.length < N → body.wpIn (F.inRound l) (n - 1 - 1) P (roundB Kp I Ix (pre ++ [x]) W) (a₁ x) W)
    (hdone : ∀ (D : Nat) (xs : List α) (W : World), w.heap.size ≤ D → S xs → I xs W → W.heap[D]? = some (.deferred (some [])) → Q .normal { a with defers := { target := .collected D, args := #[] } :: a.defers } W)
    (hstop : ∀ (D : Nat) (pre : List α) (W : World), w.heap.size ≤ D → Sp pre → Ix pre W → W.heap[D]? = some (.deferred (some [])) → Code.ret.wpIn F n P Q { a with defers := { target := .collected D, args := #[] } :: a.defers } W) :
    (Code.rangeFunc g ps assign body).wpIn F n P Q a w := by
  refine wpIn_rangeFunc fun fn hfn => ?_
  rw [hro]
  obtain ⟨z, hz⟩ : ∃ z, z = w.heap.size := ⟨_, rfl⟩
  -- the loop's record
  obtain ⟨lp, hlp⟩ : ∃ lp : LoopState → Option Code → Loop, lp = fun st pe => { state := st, pending := pe, fn, tmps := a.tmps, params := ps, assign, body, defers := z } := ⟨_, rfl⟩
  obtain ⟨V, hV⟩ : ∃ V, V = (w.alloc (.deferred (some []))).alloc (.loop (lp .ready none)) := ⟨_, rfl⟩
  have hVl : V.heap[z + 1]? = some (.loop (lp .ready none)) := by
    have h := World.alloc_heap_new (w.alloc (.deferred (some []))) (.loop (lp .ready none))
    rw [World.size_alloc, ← hz, ← hV] at h; exact h
  have hVd : V.heap[z]? = some (.deferred (some [])) := by
    rw [hV, hz]; exact (Below.heap_alloc _ _ _ (by simp)).trans (World.alloc_heap_new w _)
  have hVb : Below w0.heap.size w0 V := by
    rw [hV]; exact hb0.trans ((((Below.refl _ w).alloc (Nat.le_refl _) _).alloc (by simp) _).mono hb0.size)
  refine ⟨z + 1, [{ target := .collected z, args := #[] }], V, { target := .fn (.func gf) lb, args := #[.func (.yield (z + 1)) #[] #[]] }, V, gf, #[.func (.yield (z + 1)) #[] #[]] ++ lb, V, ?_, ?_, ?_, ?_, fun _ => h1, ?_⟩
  · rw [hV, hlp, hz]; exact run_enterLoop_outer _ _ _ _ _
  · simp only [resolve, hg]; simp [go_sem]
  · intro f' hf'; simp [Target.leads] at hf'; subst hf'; exact hFg
  · simp [invoke, go_sem, eg]
  -- the two blocks of the loop's own stay
  have keep : ∀ {A B : World} {k : Nat} {o : Obj}, A.grownBy B (some b) → w.heap.size ≤ k → A.heap[k]? = some o → B.heap[k]? = some o := fun {A B k o} h hk ho =>
    (h.block k (Array.getElem?_eq_some_iff.1 ho).1 (fun e => by cases e; omega)).trans ho
  refine (hseq (z + 1) (fun pre W => I pre W ∧ W.heap[z + 1]? = some (.loop (lp .ready none)) ∧ W.heap[z]? = some (.deferred (some [])))
    (fun pre W => Ix pre W ∧ W.heap[z + 1]? = some (.loop (lp .done (some .ret))) ∧ W.heap[z]? = some (.deferred (some []))) V hVb
    (fun s A B hs h => ⟨hI s A B _ hs.1 h (fun r e => by cases e; exact .inl rfl), keep h (by omega) hs.2.1, keep h (by omega) hs.2.2⟩)
    (fun s A B hs h => ⟨hIx s A B _ hs.1 h (fun r e => by cases e; exact .inl rfl), keep h (by omega) hs.2.1, keep h (by omega) hs.2.2⟩)
    ?round ⟨by rw [hV]; exact hI.new _ (hI.new _ h0), hVl, hVd⟩).mono ?behind
  case round =>
    rintro pre x W ⟨hi, hl, hd⟩ hlen
    obtain ⟨busy, hbusy⟩ : ∃ busy : Obj, busy = .loop { lp .ready none with state := .busy } := ⟨_, rfl⟩
    have hlt : z + 1 < W.heap.size := (Array.getElem?_eq_some_iff.1 hl).1
    have hy := run_yield (P := P) (args := encs x) hl (by rw [hlp]; exact hps x)
    rw [hlp] at hy
    refine ⟨fn, _, assign, body, hy, roundIn_of_wpIn hfn (hassign _ x W _ ⟨_, run_beginRound hl (by rw [hlp]), ?_⟩)⟩
    rw [← hbusy]
    have hl2 : (W.putObj (z + 1) busy).heap[z + 1]? = some busy := World.putObj_heap_same hlt
    have hd2 : (W.putObj (z + 1) busy).heap[z]? = some (.deferred (some [])) := (World.putObj_heap_other (by omega)).trans hd
    have hKw : Kp W (W.putObj (z + 1) busy) := hKb _ _ _ _ (by omega) hl rfl
    refine wpIn_mono (hbody _ pre x _ (hI.put _ hi (by omega) hl rfl) hlen) ?_
    have fin : ∀ (jump : Option Code) (X : World), KeepsOthers (W.putObj (z + 1) busy) X →
        X.heap[z + 1]? = some busy ∧ (Instr.endRound (z + 1) jump).run P X = .ok (.bool jump.isNone) (X.putObj (z + 1) (.loop (lp (if jump.isNone then .ready else .done) jump))) ∧
        (X.putObj (z + 1) (.loop (lp (if jump.isNone then .ready else .done) jump))).heap[z + 1]? = some (.loop (lp (if jump.isNone then .ready else .done) jump)) ∧
        (X.putObj (z + 1) (.loop (lp (if jump.isNone then .ready else .done) jump))).heap[z]? = some (.deferred (some [])) := fun jump X hk => by
      have hl3 : X.heap[z + 1]? = some busy := hk.same _ _ hl2 (by rw [hbusy]; rfl)
      refine ⟨hl3, ?_, World.putObj_heap_same (Array.getElem?_eq_some_iff.1 hl3).1, (World.putObj_heap_other (by omega)).trans (hk.same _ _ hd2 rfl)⟩
      have h := run_endRound (P := P) jump (show X.heap[z + 1]? = some (.loop { lp .ready none with state := .busy }) by rw [hl3, hbusy])
      rw [hlp] at h ⊢
      exact h
    rintro e a3 X hp
    cases e with
    | normal =>
      obtain ⟨hk, hkp, hi3⟩ := hp
      obtain ⟨hl3, hr, hl4, hd4⟩ := fin none X hk
      exact ⟨_, _, hr, .inl ⟨rfl, ⟨hI.put _ hi3 (by omega) hl3 (by rw [hbusy]; rfl), hl4, hd4⟩, hKt (hKt hKw hkp) (hKb _ _ _ _ (by omega) hl3 (by rw [hbusy]; rfl))⟩⟩
    | ret =>
      obtain ⟨hk, hi3⟩ := hp
      obtain ⟨hl3, hr, hl4, hd4⟩ := fin (some .ret) X hk
      exact ⟨_, _, hr, .inr ⟨rfl, hIx.put _ hi3 (by omega) hl3 (by rw [hbusy]; rfl), hl4, hd4⟩⟩
    | exit id => exact hp.elim
    | goto t => exact hp.elim
    | panic ch => exact hp.elim
    | outgrown => exact hp.elim
  case behind =>
    rintro e X ⟨⟨v, rfl⟩, (⟨xs, hS, hi, hl, hd⟩ | ⟨pre, hSp, hi, hl, hd⟩)⟩
    · exact ⟨none, _, by have h := run_endLoop (P := P) hl (by rw [hlp]; simp); rw [hlp] at h; exact h, hdone z xs _ (by omega) hS (hI.put _ hi (by omega) hl rfl) ((World.putObj_heap_other (by omega)).trans hd)⟩
    · exact ⟨some .ret, _, by have h := run_endLoop (P := P) hl (by rw [hlp]; simp); rw [hlp] at h; exact h, hstop z pre _ (by omega) hSp (hIx.put _ hi (by omega) hl rfl) ((World.putObj_heap_other (by omega)).trans hd)⟩
end Go.Proofs.YtlhabooeeohniaaDoor

namespace Go.Proofs.YtlhabooeeohniaaDoor
open Go Go.RowKit Go.Shelf
attribute [local go_sem] Oper.semAt_some

/-- What stands between semicolons. -/
def pcs : List Nat → List (List Nat)
  | [] => [[]]
  | c :: l => if c = 59 then [] :: pcs l else match pcs l with
    | [] => [[c]]
    | p :: ps => (c :: p) :: ps
theorem pcs_semi (l : List Nat) : pcs (59 :: l) = [] :: pcs l := if_pos rfl
theorem pcs_cons (c : Nat) (l : List Nat) (h : c ≠ 59) (p : List Nat) (ps : List (List Nat)) (e : pcs l = p :: ps) : pcs (c :: l) = (c :: p) :: ps := by unfold pcs; rw [if_neg h, e]
theorem pcs_no (l : List Nat) (h : ∀ c ∈ l, c ≠ 59) : pcs l = [l] := by
  induction l with
  | nil => rfl
  | cons c l ih => exact pcs_cons c l (h c (by simp)) l [] (ih fun x hx => h x (by simp [hx]))
theorem pcs_yes (p r : List Nat) (h : ∀ c ∈ p, c ≠ 59) : pcs (p ++ 59 :: r) = p :: pcs r := by
  induction p with
  | nil => exact pcs_semi r
  | cons c p ih => exact pcs_cons c _ (h c (by simp)) p (pcs r) (ih fun x hx => h x (by simp [hx]))
/-- A text's bytes. -/
abbrev nb (s : ByteArray) : List Nat := natL s.data.toList
theorem pcs_last (s : ByteArray) (h : Lib.indexByte s.data.toList 59 = -1) : pcs (nb s) = [nb s] := by
  rcases idx59 s.data.toList with ⟨_, h2⟩ | ⟨i, h1, _⟩
  · exact pcs_no _ fun c hc => by
      unfold nb natL at hc
      obtain ⟨u, hu, rfl⟩ := List.mem_map.1 hc
      exact fun e => h2 u hu (UInt8.toNat_inj.1 e)
  · omega
theorem pcs_next (s : ByteArray) (i : Nat) (h : Lib.indexByte s.data.toList 59 = i) : i < s.size ∧ pcs (nb s) = nb (s.extract 0 i) :: pcs (nb (s.extract (i + 1) s.size)) := by
  rcases idx59 s.data.toList with ⟨h1, _⟩ | ⟨j, h1, h2, h3, h4⟩
  · omega
  · obtain rfl : j = i := by omega
    have hi : j < s.size := by rw [← natB_len, natL_len]; exact h2
    refine ⟨hi, ?_⟩
    have e1 : nb (s.extract 0 j) = natL (s.data.toList.take j) := by
      unfold nb; rw [natL_ext, List.drop_zero]; unfold natL; rw [List.map_take]
    have e2 : nb (s.extract (j + 1) s.size) = natL (s.data.toList.drop (j + 1)) := by
      unfold nb; rw [natL_ext, List.take_of_length_le (by rw [natB_len]; exact Nat.le_refl _)]; unfold natL; rw [List.map_drop]
    rw [e1, e2]
    have e3 : nb s = natL (s.data.toList.take j) ++ 59 :: natL (s.data.toList.drop (j + 1)) := by
      unfold nb
      conv => lhs; rw [h3]
      unfold natL
      rw [List.map_append, List.map_cons]
      rfl
    rw [e3]
    exact pcs_yes _ _ fun c hc => by
      unfold natL at hc
      obtain ⟨u, hu, rfl⟩ := List.mem_map.1 hc
      exact fun e => h4 u hu (UInt8.toNat_inj.1 e)

/-- A piece: no longer than may come in. -/
abbrev Pc := { s : ByteArray // s.size ≤ 100000 }
set_option maxHeartbeats 2000000 in
theorem indexS_any (s : ByteArray) (w : World) :
    Calls Tryd.prog 40 #[.string s, .string ⟨#[59]⟩] w fun e w' => e = .returned (.int .i64 (Lib.indexByte s.data.toList 59)) ∧ w = w' := by
  have HI := Lib.hid (fun W => index59_any s W)
  generalize Lib.indexByte s.data.toList 59 = x at *
  go_enter Tryd.func40, Tryd.ntmps40
  go_wp2_with (go_at_call 46; refine (HI.out _).mono ?_; rintro e w1 ⟨rfl, rfl⟩)
  go_ret
  exact ⟨rfl, rfl⟩
/-- The world with the iterator's three boxes. -/
def seqW (w : World) (s : ByteArray) : World := ((w.alloc (.cells #[.string s] 9)).alloc (.cells #[.string ⟨#[59]⟩] 9)).alloc (.cells #[.int .i64 0] 3)
def seqV (w : World) : Value := .func (.func 38) #[] #[.pointer (some ⟨w.heap.size + 1, 0, none⟩), .pointer (some ⟨w.heap.size, 0, none⟩), .pointer (some ⟨w.heap.size + 2, 0, none⟩)]
theorem splitSeq_any (s : ByteArray) (w : World) :
    Calls Tryd.prog 29 #[.string s, .string ⟨#[59]⟩] w fun e w' => e = .returned (seqV w) ∧ seqW w s = w' := by
  have hmf : ∀ fn first cap W, (Instr.makeFunc fn first cap).run Tryd.prog W = .ok (.func fn first cap) W := fun _ _ _ _ => rfl
  have H : ∀ W, Calls Tryd.prog 33 #[.string s, .string ⟨#[59]⟩, .int .i64 0] W fun e w' => e = .returned (seqV W) ∧ seqW W s = w' := fun W => by
    unfold seqV seqW
    go_enter Tryd.func33, Tryd.ntmps33
    go_wp2_with fail
    go_ret
    exact ⟨rfl, rfl⟩
  replace H := Lib.hid H
  clear hmf
  go_enter Tryd.func29, Tryd.ntmps29
  go_wp2_with (go_at_call 33; refine (H.out _).mono ?_; rintro e w1 ⟨rfl, rfl⟩)
  go_ret
  exact ⟨rfl, rfl⟩

/-- What a round of the caller's keeps: the iterator's three boxes. -/
def KpS (b : Nat) (A B : World) : Prop := A.heap.size ≤ B.heap.size ∧ ∀ k, b ≤ k → k < b + 3 → B.heap[k]? = A.heap[k]?
theorem KpS.trans {b : Nat} {A B C : World} (h : KpS b A B) (k : KpS b B C) : KpS b A C := ⟨Nat.le_trans h.1 k.1, fun i h1 h2 => (k.2 i h1 h2).trans (h.2 i h1 h2)⟩
/-- The iterator's boxes, r being left. -/
def SeqR (b : Nat) (r : ByteArray) (W : World) : Prop := Blk W b 9 #[.string r] ∧ Blk W (b + 1) 9 #[.string ⟨#[59]⟩] ∧ Blk W (b + 2) 3 #[.int .i64 0]
theorem SeqR.kept {b : Nat} {r : ByteArray} {A B : World} (h : SeqR b r A) (k : KpS b A B) : SeqR b r B :=
  ⟨(k.2 b (Nat.le_refl _) (by omega)).trans h.1, (k.2 (b + 1) (by omega) (by omega)).trans h.2.1, (k.2 (b + 2) (by omega) (by omega)).trans h.2.2⟩
theorem SeqR.set {b : Nat} {r : ByteArray} {A : World} (h : SeqR b r A) (t : ByteArray) : SeqR b t (A.setCell ⟨b, 0, none⟩ (.string t)) :=
  ⟨by have := h.1.set_ 0 (.string t); simpa using this, h.2.1.far (by show b + 1 ≠ b; omega) _, h.2.2.far (by show b + 2 ≠ b; omega) _⟩
/-- How much is left. -/
def leftS (b : Nat) (W : World) : Nat := match W.cell? ⟨b, 0, none⟩ with
  | some (.string r) => r.size
  | _ => 0
theorem leftS_eq {b : Nat} {r : ByteArray} {W : World} (h : SeqR b r W) : leftS b W = r.size := by
  unfold leftS
  rw [h.1.cell 0]
  rfl

set_option maxRecDepth 100000 in
set_option maxHeartbeats 4000000 in
theorem pieces_in (f : Nat) (hf : 1 ≤ f) (l b : Nat) (s : ByteArray) (hs : s.size ≤ 100000) (J Jx : List Pc → World → Prop) (hJ : Keeps1 b J)
    (hY : ∀ pre (x : Pc) W, J pre W → pre.length < (pcs (nb s)).length → YieldAt Fence.wide (f - 1) Tryd.prog l #[.string x.1] W fun e W' =>
      (e = .returned (.bool true) ∧ J (pre ++ [x]) W' ∧ KpS b W W') ∨ (e = .returned (.bool false) ∧ Jx (pre ++ [x]) W'))
    (W : World) (hR : SeqR b s W) (h0 : J [] W) :
    CallsIn Fence.wide f Tryd.prog 38 #[.func (.yield l) #[] #[], .pointer (some ⟨b + 1, 0, none⟩), .pointer (some ⟨b, 0, none⟩), .pointer (some ⟨b + 2, 0, none⟩)] W fun e W' => (∃ v, e = .returned v) ∧
      ((∃ ys : List Pc, ys.map (fun x => nb x.1) = pcs (nb s) ∧ J ys W') ∨ (∃ pre : List Pc, pre.map (fun x => nb x.1) <+: pcs (nb s) ∧ Jx pre W')) := by
  have hadd0 : ∀ x : Int, x + 0 = x := fun x => by omega
  have c1 := hR.2.1.cell 0
  have HY := Lib.hid hY; have HJ := Lib.hid hJ; have HR := Lib.hid hR; have H0 := Lib.hid h0
  clear hY hJ hR h0
  refine callsIn_of_wp Tryd.func38 rfl trivial ?_ rfl
  simp only [Tryd.ntmps38, List.size_toArray, List.length_cons, List.length_nil, Nat.reduceAdd, Nat.reduceSub, Array.replicate_succ, Array.replicate_zero, List.push_toArray, List.append_toArray, List.nil_append, List.cons_append]
  --#1
  gi_wp2
  clear c1
  --#2
  gi_loopw [] (fun wr => ∃ (pre : List Pc) (r : ByteArray), r.size ≤ 100000 ∧ pcs (nb s) = pre.map (fun x => nb x.1) ++ pcs (nb r) ∧ J pre wr ∧ SeqR b r wr) (fun wr => leftS b wr)
  case atStart => exact ⟨[], s, hs, rfl, H0.out, HR.out⟩
  case round =>
    obtain ⟨pre, r, hr, hx, hj, hq⟩ := hrel
    have c0 := hq.1.cell 0
    have c1 := hq.2.1.cell 0
    have c2 := hq.2.2.cell 0
    have HL := Lib.hid (leftS_eq hq)
    have HI := Lib.hid (fun W => (callsIn_wide (n := f - 1)).2 (indexS_any r W))
    have HQ := Lib.hid hq; have HJp := Lib.hid hj; have HX := Lib.hid hx
    clear hq hj hx HR H0
    have hne : pre.length < (pcs (nb s)).length := by
      rw [HX.out]
      have : pcs (nb r) ≠ [] := by
        cases nb r with
        | nil => simp [pcs]
        | cons c l => unfold pcs; split; · simp
                      · split <;> simp
      have := List.length_pos_iff.2 this
      simp; omega
    --#3
    rcases idx59 r.data.toList with ⟨h1, _⟩ | ⟨i, h1, _, _, _⟩
    · have HP := Lib.hid (pcs_last r h1)
      rw [h1] at HI
      clear h1
      obtain ⟨fn, tmps, assign, body, hy, hRd⟩ := HY.out pre ⟨r, hr⟩ wr HJp.out hne
      dsimp only at hy
      gi_wp2_with (refine ⟨trivial, ?_⟩; gi_at_call 40; refine (HI.out _).mono ?_; rintro e w1 ⟨rfl, rfl⟩)
      refine hRd.mono ?_
      rintro e W3 (⟨rfl, hJ3, hk3⟩ | ⟨rfl, hJx3⟩)
      all_goals
        clear hy
        gi_wp2
        go_end0
      · exact ⟨⟨_, rfl⟩, .inl ⟨pre ++ [⟨r, hr⟩], by rw [HX.out, HP.out]; simp, hJ3⟩⟩
      · exact ⟨⟨_, rfl⟩, .inr ⟨pre ++ [⟨r, hr⟩], by rw [HX.out, HP.out]; simp, hJx3⟩⟩
    · obtain ⟨hi, hP⟩ := pcs_next r i h1
      have HP := Lib.hid hP
      rw [h1] at HI
      clear h1 hP
      have g1 : (0 : Int) ≤ ↑i := by omega
      have g2 : (↑i : Int) ≤ ↑r.size := by omega
      have g3 : (0 : Int) ≤ ↑i + 1 := by omega
      have g4 : (↑i + 1 : Int) ≤ ↑r.size := by omega
      have hz0 : (r.extract 0 i).size ≤ 100000 := by rw [ByteArray.size_extract]; omega
      have hz1 : (r.extract (i + 1) r.size).size ≤ 100000 := by rw [ByteArray.size_extract]; omega
      obtain ⟨fn, tmps, assign, body, hy, hRd⟩ := HY.out pre ⟨r.extract 0 i, hz0⟩ wr HJp.out hne
      dsimp only at hy
      --#4
      gi_wp2_with (refine ⟨trivial, ?_⟩; gi_at_call 40; refine (HI.out _).mono ?_; rintro e w1 ⟨rfl, rfl⟩)
      refine hRd.mono ?_
      rintro e W3 (⟨rfl, hJ3, hk3⟩ | ⟨rfl, hJx3⟩)
      · have hq3 := HQ.out.kept hk3
        have HQ3 := Lib.hid hq3
        have HS := Lib.hid (hq3.set (r.extract (i + 1) r.size))
        have HJ3 := Lib.hid (HJ.out _ _ _ hJ3 (grownBy_setCell' W3 b (.string (r.extract (i + 1) r.size))))
        have d0 := hq3.1.cell 0
        have d1 := hq3.2.1.cell 0
        clear hy hJ3 hk3 c0 c1 c2 hq3
        have f0 := HQ3.out.1.frozen 0
        --#5
        gi_wp2
        go_roundw
        case rel => exact ⟨pre ++ [⟨r.extract 0 i, hz0⟩], r.extract (i + 1) r.size, hz1, by rw [HX.out, HP.out]; simp, HJ3.out, HS.out⟩
        case measure => rw [leftS_eq HS.out, HL.out, ByteArray.size_extract]; omega
      · clear hy
        gi_wp2
        refine bodyPost_ret (results_none rfl _ _ _) rfl ?_
        exact ⟨⟨_, rfl⟩, .inr ⟨pre ++ [⟨r.extract 0 i, hz0⟩], by rw [HX.out, HP.out]; simp, hJx3⟩⟩
theorem seqR_new (w : World) (s : ByteArray) : SeqR w.heap.size s (seqW w s) := by
  refine ⟨((Blk.new w _ _).alloc _).alloc _, ?_, ?_⟩
  · have h := (Blk.new (w.alloc (.cells #[.string s] 9)) 9 #[.string ⟨#[59]⟩]).alloc (.cells #[.int .i64 0] 3)
    rw [World.size_alloc] at h
    exact h
  · have h := Blk.new ((w.alloc (.cells #[.string s] 9)).alloc (.cells #[.string ⟨#[59]⟩] 9)) 3 #[.int .i64 0]
    rw [World.size_alloc, World.size_alloc] at h
    exact h
theorem seqW_size (w : World) (s : ByteArray) : (seqW w s).heap.size = w.heap.size + 3 := by simp [seqW]
theorem seqW_below {B : Nat} {a w : World} (h : Below B a w) (hB : B ≤ w.heap.size) (s : ByteArray) : Below B a (seqW w s) :=
  ((h.alloc hB _).alloc (by simp; omega) _).alloc (by simp; omega) _
theorem seqW_blk {w : World} {b : Nat} {t : TypeId} {cs : Array Value} (h : Blk w b t cs) (s : ByteArray) : Blk (seqW w s) b t cs := ((h.alloc _).alloc _).alloc _
theorem pieces_seq (f : Nat) (hf : 1 ≤ f) (b : Nat) (s : ByteArray) (hs : s.size ≤ 100000) (w : World) (hR : SeqR b s w) :
    SeqB Fence.wide f Tryd.prog 38 #[.pointer (some ⟨b + 1, 0, none⟩), .pointer (some ⟨b, 0, none⟩), .pointer (some ⟨b + 2, 0, none⟩)] (fun x : Pc => #[Value.string x.1]) (KpS b) b (fun ys => ys.map (fun x => nb x.1) = pcs (nb s)) (fun pre => pre.map (fun x => nb x.1) <+: pcs (nb s)) (pcs (nb s)).length w := fun l J Jx W hW hJ _ hY h0 =>
  pieces_in f hf l b s hs J Jx hJ hY W ⟨hR.1.next hW, hR.2.1.next hW, hR.2.2.next hW⟩ h0
end Go.Proofs.YtlhabooeeohniaaDoor

namespace Go.Proofs.YtlhabooeeohniaaDoor
open Go Go.RowKit Go.Shelf
attribute [local go_sem] Oper.semAt_some

theorem grown_of_below {w w' : World} {r : Option Nat} (h : Below w.heap.size w w') : w.grownBy w' r := ⟨h.os, h.tape, h.output, h.size, fun k hk _ => h.block k hk⟩
/-- Keys in memory: fifteen texts, and are they locked? -/
def keyC (T : List ByteArray) (lk : Bool) : Array Value := (T.map Value.string ++ [Value.bool lk]).toArray
def KeyB (w : World) (K : Nat) (T : List ByteArray) (lk : Bool) : Prop := Blk w K 26 (keyC T lk) ∧ T.length = 15
theorem keyC_at (T : List ByteArray) (lk : Bool) (k : Nat) (h : k < T.length) : (keyC T lk)[k]? = some (.string T[k]) := by
  unfold keyC
  rw [List.getElem?_toArray, List.getElem?_append_left (by simpa using h)]
  simp [h]
theorem keyC_set (T : List ByteArray) (lk : Bool) (k : Nat) (h : k < T.length) (t : ByteArray) : (keyC T lk).setIfInBounds k (.string t) = keyC (T.set k t) lk := by
  unfold keyC
  rw [List.setIfInBounds_toArray, List.set_append_left _ _ (by simpa using h), List.map_set]
theorem KeyB.text {w : World} {K : Nat} {T : List ByteArray} {lk : Bool} (h : KeyB w K T lk) (k : Nat) (hk : k < 15) : w.cell? ⟨K, k, none⟩ = some (.string (T[k]'(by rw [h.2]; exact hk))) := by
  rw [h.1.cell k]; exact keyC_at T lk k _
theorem KeyB.put {w : World} {K : Nat} {T : List ByteArray} {lk : Bool} (h : KeyB w K T lk) (k : Nat) (hk : k < 15) (t : ByteArray) : KeyB (w.setCell ⟨K, k, none⟩ (.string t)) K (T.set k t) lk :=
  ⟨by have := h.1.set_ k (.string t); rwa [keyC_set T lk k (by rw [h.2]; exact hk)] at this, by rw [List.length_set]; exact h.2⟩

/-- What a definition says. -/
def defS (x : List Nat) : Option (Nat × List Nat) := defP (puK (bstr (cutQ x).1)) (cutQ x).2.2 (cutQ x).2.1
def stepU (T : List ByteArray) (x : List Nat) : Option (List ByteArray) := if x = [] then some T else (defS x).map fun p => T.set p.1 (bstr p.2)
def takeU (T : List ByteArray) (l : List (List Nat)) : Option (List ByteArray) := l.foldl (fun o x => o.bind fun T => stepU T x) (some T)
theorem takeU_snoc (T : List ByteArray) (l : List (List Nat)) (x : List Nat) : takeU T (l ++ [x]) = (takeU T l).bind fun T => stepU T x := by unfold takeU; rw [List.foldl_append]; rfl
theorem takeU_sn (T : List ByteArray) (pre : List Pc) (x : Pc) : takeU T ((pre ++ [x]).map fun x => nb x.1) = (takeU T (pre.map fun x => nb x.1)).bind fun T => stepU T (nb x.1) := by
  rw [List.map_append]; exact takeU_snoc T _ _
theorem takeU_none (T : List ByteArray) (p l : List (List Nat)) (hp : p <+: l) (h : takeU T p = none) : takeU T l = none := by
  obtain ⟨q, rfl⟩ := hp
  unfold takeU at h ⊢
  rw [List.foldl_append, h]
  induction q with
  | nil => rfl
  | cons x q ih => exact ih
theorem defS_lt (x : List Nat) (k : Nat) (b : List Nat) (h : defS x = some (k, b)) : k < 15 := by
  unfold defS defP at h
  split at h
  · split at h
    · rename_i key _ hc
      have := plc_le (key : Int)
      cases hf : fhL (cutQ x).2.1 with
      | none => rw [hf] at h; cases h
      | some z => rw [hf] at h; injection h with h; injection h with h1 h2; omega
    · cases h
  · cases h
theorem definS_any (s : ByteArray) (hs : s.size ≤ 100000) (w : World) (he : ErrS w) (hr : ErrR w) (hn : Nums w) :
    Calls Tryd.prog 30 #[.string s] w fun e w' => DefQ (defS (nb s)) e ∧ Below w.heap.size w w' :=
  (definition_any s hs w he hr hn).mono fun e w' ⟨⟨d, hd, h⟩, hb⟩ => by
    refine ⟨?_, hb⟩
    have e1 : bstr (cutQ (nb s)).1 = d := by rw [← hd, bstr_back]
    unfold defS
    rw [e1]
    exact h
/-- The library's errors and the keys' numbers are in memory; they stay where one box turns that is none of them. -/
def UEnv (w : World) : Prop := ErrS w ∧ ErrR w ∧ Nums w
theorem UEnv.next {w w' : World} (h : UEnv w) (hb : Below w.heap.size w w') : UEnv w' := ⟨h.1.next hb, h.2.1.next hb, h.2.2.next hb⟩
def FarU (K : Nat) : Prop := K ≠ 4 ∧ K ≠ 5 ∧ K ≠ 0
theorem UEnv.grown {w w' : World} {K : Nat} (h : UEnv w) (hb : w.grownBy w' (some K)) (hK : FarU K) : UEnv w' := by
  obtain ⟨⟨h1, te, pe, h2⟩, ⟨h3, te2, pe2, h4⟩, h5, h6⟩ := h
  refine ⟨⟨Nat.lt_of_lt_of_le h1 hb.size, te, pe, (hb.cell_far _ h1 (fun e => hK.1 ?_)).trans h2⟩, ⟨Nat.lt_of_lt_of_le h3 hb.size, te2, pe2, (hb.cell_far _ h3 (fun e => hK.2.1 ?_)).trans h4⟩, Nat.lt_of_lt_of_le h5 hb.size, fun j v hj => (hb.cell_far _ h5 (fun e => hK.2.2 ?_)).trans (h6 j v hj)⟩
  all_goals (injection e with e; exact e.symm)
theorem grown_far {A B C : World} {K : Nat} {row : Option Nat} (h : A.grownBy B (some K)) (k : B.grownBy C row) (hr : ∀ r, row = some r → A.heap.size ≤ r ∨ r = K) : A.grownBy C (some K) :=
  ⟨k.os.trans h.os, k.tape.trans h.tape, k.output.trans h.output, Nat.le_trans h.size k.size, fun i hi hne => (k.block i (Nat.lt_of_lt_of_le hi h.size) (fun e => by
    rcases hr i e.symm with h' | h'
    · omega
    · exact hne (by rw [h']))).trans (h.block i hi hne)⟩
theorem grown_b {A B : World} {n K : Nat} (hb : Below n A B) (hn : A.heap.size ≤ n) : A.grownBy B (some K) := ⟨hb.os, hb.tape, hb.output, hb.size, fun i hi _ => hb.block i (by omega)⟩

theorem setCell_grown (W : World) (b i : Nat) (v : Value) : W.grownBy (W.setCell ⟨b, i, none⟩ v) (some b) :=
  ⟨rfl, rfl, rfl, by simp [World.setCell], fun k _ hne => Below.heap_setCell W ⟨b, i, none⟩ v k (fun e => hne (by rw [e]))⟩
theorem setCell_size (W : World) (a : Addr) (v : Value) : (W.setCell a v).heap.size = W.heap.size := by simp [World.setCell]
/-- What take keeps from round to round. -/
def TkI (w : World) (K : Nat) (T : List ByteArray) (lk : Bool) (pre : List Pc) (W : World) : Prop :=
  (∃ T', takeU T (pre.map fun x => nb x.1) = some T' ∧ KeyB W K T' lk) ∧ Blk W w.heap.size 30 #[.pointer (some ⟨K, 0, none⟩)] ∧ Blk W (w.heap.size + 1) 45 #[.int .i64 0] ∧ w.grownBy W (some K) ∧ w.heap.size + 5 ≤ W.heap.size
def TkX (w : World) (K : Nat) (T : List ByteArray) (lk : Bool) (pre : List Pc) (W : World) : Prop :=
  (takeU T (pre.map fun x => nb x.1) = none ∧ ∃ T', KeyB W K T' lk) ∧ Blk W (w.heap.size + 1) 45 #[.int .i64 3] ∧ w.grownBy W (some K)
theorem tkI_keeps (w : World) (K : Nat) (hK : K < w.heap.size) (T : List ByteArray) (lk : Bool) (b z : Nat) (hb : b = w.heap.size + 2) (hz : z = w.heap.size + 5) : Keeps2 b z (TkI w K T lk) := by
  rintro s A B row ⟨⟨T', h1, h2, h3⟩, h4, h5, h6, h7⟩ hg hr
  have far : ∀ r, row = some r → w.heap.size + 2 ≤ r := fun r e => by rcases hr r e with h | ⟨h, _⟩ <;> omega
  have ne : ∀ k, k < w.heap.size + 2 → some k ≠ row := fun k hk e => by have := far k e.symm; omega
  exact ⟨⟨T', h1, h2.grown hg (ne _ (by omega)), h3⟩, h4.grown hg (ne _ (by omega)), h5.grown hg (ne _ (by omega)), grown_far h6 hg fun r e => .inl (by have := far r e; omega), Nat.le_trans h7 hg.size⟩
theorem tkX_keeps (w : World) (K : Nat) (hK : K < w.heap.size) (T : List ByteArray) (lk : Bool) (b z : Nat) (hb : b = w.heap.size + 2) (hz : z = w.heap.size + 5) : Keeps2 b z (TkX w K T lk) := by
  rintro s A B row ⟨⟨h1, T', h2, h3⟩, h5, h6⟩ hg hr
  have far : ∀ r, row = some r → w.heap.size + 2 ≤ r := fun r e => by rcases hr r e with h | ⟨h, _⟩ <;> omega
  have ne : ∀ k, k < w.heap.size + 2 → some k ≠ row := fun k hk e => by have := far k e.symm; omega
  exact ⟨⟨h1, T', h2.grown hg (ne _ (by omega)), h3⟩, h5.grown hg (ne _ (by omega)), grown_far h6 hg fun r e => .inl (by have := far r e; omega)⟩
/-- What take answers. -/
def TakeQ (o : Option (List ByteArray)) (K : Nat) (lk : Bool) (e : Ending) (W : World) : Prop := match o with
  | some T' => e = .returned (.int .i64 0) ∧ KeyB W K T' lk
  | none => e = .returned (.int .i64 3) ∧ ∃ T', KeyB W K T' lk

set_option maxRecDepth 100000 in
set_option maxHeartbeats 4000000 in
theorem take_in (f : Nat) (hf : 3 ≤ f) (K : Nat) (T : List ByteArray) (lk : Bool) (s : ByteArray) (hs : s.size ≤ 100000) (w : World) (hk : KeyB w K T lk) (hu : UEnv w) (hfar : FarU K) :
    CallsIn Fence.wide f Tryd.prog 26 #[.pointer (some ⟨K, 0, none⟩), .string s] w fun e w' => TakeQ (takeU T (pcs (nb s))) K lk e w' ∧ w.grownBy w' (some K) := by
  have h1 : 1 ≤ f := by omega
  have hKw : K < w.heap.size := hk.1.lt
  refine callsIn_of_wp_marks Tryd.func26 rfl trivial ?_ rfl
  simp only [Tryd.ntmps26, List.size_toArray, List.length_cons, List.length_nil, Nat.reduceAdd, Nat.reduceSub, Array.replicate_succ, Array.replicate_zero, List.push_toArray, List.append_toArray, List.nil_append, List.cons_append]
  have HK := Lib.hid hk; have HU := Lib.hid hu
  clear hk hu
  --#1
  gi_wp2_with (refine ⟨trivial, ?_⟩; gi_at_call 29; refine ((callsIn_wide (n := f - 1)).2 (splitSeq_any s _)).mono ?_; rintro e w' ⟨rfl, rfl⟩)
  --#2
  obtain ⟨V, hV⟩ : ∃ V, ((w.alloc (.cells #[.pointer (some ⟨K, 0, none⟩)] 30)).alloc (.cells #[.int .i64 0] 45)) = V := ⟨_, rfl⟩
  have hVz : V.heap.size = w.heap.size + 2 := by rw [← hV]; simp
  have hVb : Below w.heap.size w V := by rw [← hV]; exact ((Below.refl _ w).alloc (Nat.le_refl _) _).alloc (by simp) _
  have b0 := (Blk.new w 30 #[.pointer (some ⟨K, 0, none⟩)]).alloc (.cells #[.int .i64 0] 45)
  have b1 := Blk.new (w.alloc (.cells #[.pointer (some ⟨K, 0, none⟩)] 30)) 45 #[.int .i64 0]
  rw [World.size_alloc] at b1
  rw [hV] at b0 b1
  rw [hV]
  have hz0 : (seqW V s).heap.size = w.heap.size + 5 := by rw [seqW_size, hVz]
  have hB0 : Below w.heap.size w (seqW V s) := seqW_below hVb (by omega) s
  have hq := seqR_new V s
  rw [hVz] at hq
  have hI0 : TkI w K T lk [] (seqW V s) := ⟨⟨T, rfl, HK.out.1.next hB0, HK.out.2⟩, seqW_blk b0 s, seqW_blk b1 s, grown_b hB0 (Nat.le_refl _), by rw [hz0]; exact Nat.le_refl _⟩
  have hsv : seqV V = .func (.func 38) #[] #[.pointer (some ⟨w.heap.size + 3, 0, none⟩), .pointer (some ⟨w.heap.size + 2, 0, none⟩), .pointer (some ⟨w.heap.size + 4, 0, none⟩)] := by unfold seqV; rw [hVz]
  rw [hsv]
  generalize seqW V s = W0 at *
  clear hV b0 b1 hsv hVz hVb
  --#3
  refine wpIn_rangeB (F := Fence.wide) rfl h1 (gf := 38) (lb := #[.pointer (some ⟨w.heap.size + 3, 0, none⟩), .pointer (some ⟨w.heap.size + 2, 0, none⟩), .pointer (some ⟨w.heap.size + 4, 0, none⟩)]) rfl trivial (enters_of Tryd.func38 (by kernel_rfl) rfl)
    (pieces_seq (f - 1) (by omega) (w.heap.size + 2) s hs W0 hq) KpS.trans
    (fun W l o o' hl ho hoc => ⟨(grownBy_putObj' W l o').size, fun k k1 k2 => (grownBy_putObj' W l o').block k (by have := (Array.getElem?_eq_some_iff.1 ho).1; omega) (by simp; omega)⟩) (Below.refl _ _) (by omega) (fun _ => rfl)
    (TkI w K T lk) (TkX w K T lk) (tkI_keeps w K hKw T lk _ _ rfl hz0) (tkX_keeps w K hKw T lk _ _ rfl hz0) hI0
    (fun x => { tmps := #[.pointer (some ⟨K, 0, none⟩), .string s, .pointer (some ⟨w.heap.size, 0, none⟩), undef, .pointer (some ⟨w.heap.size + 1, 0, none⟩), .string x.1, undef, undef, undef, .string s, .func (.func 38) #[] #[.pointer (some ⟨w.heap.size + 3, 0, none⟩), .pointer (some ⟨w.heap.size + 2, 0, none⟩), .pointer (some ⟨w.heap.size + 4, 0, none⟩)], .string x.1, undef, undef, undef, undef, undef, undef, undef, undef, undef, undef, undef, undef, undef, undef, undef, undef, undef], defers := [] }) ?assign ?body ?done ?stop
  case assign =>
    intro l x W Kx hKx
    gi_wp2
    exact hKx
  case body =>
    rintro l pre x W ⟨⟨T', ht, hkb⟩, hb0, hb1, hg, hz⟩ _
    have hu' := HU.out.grown hg hfar
    have h11 : 1 ≤ f - 1 - 1 := by omega
    have HD := Lib.hid (CallsIn.inRound (F := Fence.wide) l ((callsIn_wide (n := f - 1 - 1 - 1)).2 (definS_any x.1 x.2 W hu'.1 hu'.2.1 hu'.2.2)))
    have HT := Lib.hid ht; have HKb := Lib.hid hkb; have Hb0 := Lib.hid hb0; have Hb1 := Lib.hid hb1; have HG := Lib.hid hg
    clear hu' ht hkb hb0 hb1 hg
    --#4
    by_cases hx : x.1.toList = []
    · have hxe : ([] : List UInt8).isEmpty = true := rfl
      have hxe' : x.1.toList.isEmpty = true := by rw [hx]; rfl
      have hn : nb x.1 = [] := by unfold nb natL; rw [← ByteArray.toList_eq, hx]; rfl
      clear hx
      gi_wp2
      refine ⟨KeepsOthers.refl _, ⟨Nat.le_refl _, fun _ _ _ => rfl⟩, ⟨T', ?_, HKb.out⟩, Hb0.out, Hb1.out, HG.out, hz⟩
      rw [takeU_sn, HT.out]
      show stepU T' (nb x.1) = some T'
      rw [hn]; rfl
    · have hxe' : x.1.toList.isEmpty = false := by cases h : x.1.toList with
        | nil => exact absurd h hx
        | cons => rfl
      have hn : nb x.1 ≠ [] := fun h => hx (by unfold nb natL at h; rw [← ByteArray.toList_eq] at h; exact List.map_eq_nil_iff.1 h)
      have hst : takeU T ((pre ++ [x]).map fun x => nb x.1) = (defS (nb x.1)).map fun p => T'.set p.1 (bstr p.2) := by
        rw [takeU_sn, HT.out]
        show stepU T' (nb x.1) = _
        unfold stepU; rw [if_neg hn]
      have hlt : ∀ k b, defS (nb x.1) = some (k, b) → k < 15 := defS_lt _
      have HST := Lib.hid hst; have HLT := Lib.hid hlt
      clear hx hst hlt hn HT
      generalize defS (nb x.1) = o at *
      --#5
      rcases o with _ | ⟨k, b⟩
      · gi_wp2_with (refine ⟨trivial, ?_⟩; gi_at_call 30; refine HD.out.mono ?_; rintro e W1 ⟨⟨y, t, rfl⟩, hb1⟩; have HB1 := Lib.hid hb1; clear hb1 HD; have hb1' := Hb1.out.next HB1.out; have q1 := hb1'.cell 0; have qf := hb1'.frozen 0)
        have hb1' := Hb1.out.next HB1.out
        have HX := Lib.hid (hb1'.set_ 0 (.int .i64 3))
        --#6
        refine ⟨?_, ⟨by rw [HST.out]; rfl, T', ?_⟩, ?_, ?_⟩
        · exact (KeepsOthers.of_grownBy (row := none) (grown_of_below HB1.out) (fun j o e => by cases e)).trans (KeepsOthers.setCell _ _ _)
        · exact ⟨(HKb.out.1.next HB1.out).far (by show K ≠ w.heap.size + 1; omega) _, HKb.out.2⟩
        · simpa using HX.out
        · exact grown_far (grown_far (row := none) HG.out (grown_of_below HB1.out) (fun r e => by cases e)) (setCell_grown W1 (w.heap.size + 1) 0 _) (fun r e => .inl (by cases e; omega))
      · have hk15 : k < 15 := HLT.out k b rfl
        have hk0 : (0 : Int) ≤ (k : Int) := by omega
        have hk1 : (k : Int) < 15 := by omega
        have hst : takeU T ((pre ++ [x]).map fun x => nb x.1) = some (T'.set k (bstr b)) := HST.out
        have HS := Lib.hid hst
        have HDn : Hid (CallsIn (Fence.wide.inRound l) (f - 1 - 1 - 1) Tryd.prog 30 #[.string x.1] W fun e w' => e = .returned (.tuple #[.int .i64 (k : Nat), .string (bstr b), .int .i64 0]) ∧ Below W.heap.size W w') := HD
        clear hst HST HLT HD
        generalize bstr b = bb at *
        --#7
        gi_wp2_with (refine ⟨trivial, ?_⟩; gi_at_call 30; refine HDn.out.mono ?_; rintro e W1 ⟨rfl, hb1⟩; have HB1 := Lib.hid hb1; clear hb1 HDn; have q0 := (Hb0.out.next HB1.out).cell 0; have hkb1 : KeyB W1 K T' lk := ⟨HKb.out.1.next HB1.out, HKb.out.2⟩; have qk := hkb1.text k hk15; have qf := hkb1.1.frozen k)
        have hkb1 : KeyB W1 K T' lk := ⟨HKb.out.1.next HB1.out, HKb.out.2⟩
        refine ⟨?_, ⟨?_, fun j h1 h2 => ?_⟩, ⟨_, HS.out, hkb1.put k hk15 bb⟩, ?_, ?_, ?_, ?_⟩
        · exact (KeepsOthers.of_grownBy (row := none) (grown_of_below HB1.out) (fun j o e => by cases e)).trans (KeepsOthers.setCell _ _ _)
        · rw [setCell_size]; exact HB1.out.size
        · exact (Below.heap_setCell W1 ⟨K, k, none⟩ _ j (by show j ≠ K; omega)).trans (HB1.out.block j (by omega))
        · exact (Hb0.out.next HB1.out).far (by show w.heap.size ≠ K; omega) _
        · exact (Hb1.out.next HB1.out).far (by show w.heap.size + 1 ≠ K; omega) _
        · exact grown_far (grown_far (row := none) HG.out (grown_of_below HB1.out) (fun r e => by cases e)) (setCell_grown W1 K k _) (fun r e => .inr (by cases e; rfl))
        · rw [setCell_size]; exact Nat.le_trans hz HB1.out.size
  case done =>
    rintro D ys W hD hys ⟨⟨T', ht, hkb⟩, hb0, hb1, hg, hz⟩ hK
    rw [hys] at ht
    have q1 := hb1.cell 0
    have qf := hb1.frozen 0
    have HT := Lib.hid ht; have HKb := Lib.hid hkb; have Hb1 := Lib.hid hb1; have HG := Lib.hid hg
    clear hys ht hkb hb0 hb1 hg
    gi_wp2
    have hK' := (KeepsOthers.setCell W ⟨w.heap.size + 1, 0, none⟩ (.int .i64 0)).same D _ hK rfl
    refine ⟨by simp, .inl ⟨_, _, rfl, run_takeDeferred hK', ?_⟩⟩
    have hc5 := cell_kept (World.cell?_setCell_same' W ⟨w.heap.size + 1, 0, none⟩ (.int .i64 0) (by rw [q1]; rfl)) (grownBy_putObj' _ D (.deferred none)) (fun r e => by cases e; exact ⟨_, hK', rfl⟩)
    have hgr := (setCell_grown W (w.heap.size + 1) 0 (.int .i64 0))
    have hgp := grownBy_putObj' (W.setCell ⟨w.heap.size + 1, 0, none⟩ (.int .i64 0)) D (.deferred none)
    refine ⟨.int .i64 0, ?_, ?_, grown_far (grown_far HG.out hgr (fun r e => .inl (by cases e; omega))) hgp (fun r e => .inl (by cases e; omega))⟩
    · simp [results, Tryd.f26, go_sem, hc5]
    · rw [HT.out]
      exact ⟨rfl, (HKb.out.1.grown hgr (fun e => by injection e with e; omega)).grown hgp (fun e => by injection e with e; omega), HKb.out.2⟩
  case stop =>
    rintro D pre W hD hpre ⟨⟨ht, T', hkb⟩, hb1, hg⟩ hK
    have HT := Lib.hid (takeU_none T _ _ hpre ht); have HKb := Lib.hid hkb; have HG := Lib.hid hg; have Hb1 := Lib.hid hb1
    clear ht hkb hb1 hg hpre
    gi_wp2
    refine ⟨by simp, .inl ⟨_, _, rfl, run_takeDeferred hK, ?_⟩⟩
    have hc5 := cell_kept (Hb1.out.cell 0) (grownBy_putObj' _ D (.deferred none)) (fun r e => by cases e; exact ⟨_, hK, rfl⟩)
    have hgp := grownBy_putObj' W D (.deferred none)
    refine ⟨.int .i64 3, ?_, ?_, grown_far HG.out hgp (fun r e => .inl (by cases e; omega))⟩
    · simp [results, Tryd.f26, go_sem, hc5]
    · rw [HT.out]
      exact ⟨rfl, T', HKb.out.1.grown hgp (fun e => by injection e with e; omega), HKb.out.2⟩
theorem take_any (K : Nat) (T : List ByteArray) (lk : Bool) (s : ByteArray) (hs : s.size ≤ 100000) (w : World) (hk : KeyB w K T lk) (hu : UEnv w) (hfar : FarU K) :
    Calls Tryd.prog 26 #[.pointer (some ⟨K, 0, none⟩), .string s] w fun e w' => TakeQ (takeU T (pcs (nb s))) K lk e w' ∧ w.grownBy w' (some K) :=
  (callsIn_wide (n := 3)).1 (take_in 3 (Nat.le_refl _) K T lk s hs w hk hu hfar)
end Go.Proofs.YtlhabooeeohniaaDoor

/-
  Tokens that can be, one behind the other.
  The walks of the reference that writes numbers: digit by digit, one by one.
  Tokens of the program's own, as letters, of any kind.
  Tokens, the document's own answers: an escape and a byte; what kind of function it is.
  A slice of one's own that is grown within a region that draws its order: what it was is as it was, and so is each other one.
  Tokens, the document's own answers: the bytes of an Esc with Inters.
  Tokens, the document's own answers: their bytes.
  What is answered as a sequence, plainly: a token of an id; its bytes. The walk of a mark.
  The walks of a token of an id, of its bytes, of sequences.
  The walks of a token's bytes, and of sequences and strings.
  The walks of the reference's sequences.
  The walks of the program's replies of numbers, and of the reference's.
  The walks of places, modes and the primary attributes, of both sides.
  The walk of hexadecimal digits.
  The walks of a character of G3 and of a checksum, of both sides.
  What is answered is never nothing; the fixed fact.
  The fixed fact of the reply's laws.
  Places that are told and read again.
-/
import Derived.Test.YtpiliicphoacfaaDoorPrfV
import Derived.Test.YtpiliicphoacfaaDoorTokL
import Derived.Test.YtpiliicphoacfaaDoorParL
import Derived.Deep.RegionWith
import Derived.StillTailTactics
import Derived.Laws.BytesArg
import Derived.ArgAppend
import Derived.Lib.ConvBytes
import Derived.Test.YtpiliicphoacfaaDoorParV
import Derived.Test.YtpiliicphoacfaaDoorParP
import Derived.Laws.Strings2
import Derived.Deep.AppendLies
namespace Go.Proofs.YtpiliicphoacfaaDoor
open Go Go.RowKit
set_option maxRecDepth 100000

def okB (t : Tok) : Bool := decide (checkP t.kd t.cd t.mr t.ps t.it t.dt = 0)
def gsT (l : List Tok) (k : Nat) : List Tok := (l.take k).filter okB
theorem gsT_yes {l : List Tok} {k : Nat} (h : k < l.length) (ho : okB l[k] = true) : gsT l (k + 1) = gsT l k ++ [l[k]] := by
  unfold gsT
  rw [List.take_succ_eq_append_getElem h, List.filter_append]
  simp [ho]
theorem gsT_no {l : List Tok} {k : Nat} (h : k < l.length) (ho : okB l[k] = false) : gsT l (k + 1) = gsT l k := by
  unfold gsT
  rw [List.take_succ_eq_append_getElem h, List.filter_append]
  simp [ho]
theorem gsT_len (l : List Tok) (k : Nat) : (gsT l k).length ≤ k := by
  unfold gsT
  have h1 := List.length_filter_le okB (l.take k)
  have h2 : (l.take k).length ≤ k := by rw [List.length_take]; omega
  omega
theorem gsT_can {l : List Tok} (h : ∀ t ∈ l, t.cd < 256 ∧ ∀ n ∈ t.dt, n < 256) (k : Nat) : ∀ t ∈ gsT l k, t.can := by
  intro t ht
  unfold gsT at ht
  obtain ⟨h1, h2⟩ := List.mem_filter.1 ht
  have h3 := h t (List.mem_of_mem_take h1)
  exact ⟨h3.1, of_decide_eq_true h2, h3.2⟩
theorem can_szs {t : Tok} (h : t.can) : t.szs := by
  obtain ⟨_, _, _, h4, _⟩ := check_zero h.2.1
  show t.ps.length ≤ maxLen
  unfold maxLen; omega
def gsB (l : List Tok) (k : Nat) (e : Bool) : List Nat := (gsT l k).flatMap fun t => t.bys e
theorem gsB_yes {l : List Tok} {k : Nat} (h : k < l.length) (ho : okB l[k] = true) (e : Bool) : gsB l (k + 1) e = gsB l k e ++ l[k].bys e := by
  unfold gsB
  rw [gsT_yes h ho, List.flatMap_append, List.flatMap_singleton]
theorem gsB_len {l : List Tok} (h : ∀ t ∈ l, t.cd < 256 ∧ ∀ n ∈ t.dt, n < 256) (k : Nat) (e : Bool) : (gsB l k e).length ≤ k * 4290 := by
  have h1 := flat_len e (gsT l k) (gsT_can h k)
  have h2 := Nat.mul_le_mul_right 4290 (gsT_len l k)
  unfold gsB
  omega
theorem gsB_lt {l : List Tok} (h : ∀ t ∈ l, t.cd < 256 ∧ ∀ n ∈ t.dt, n < 256) (k : Nat) (e : Bool) : ∀ n ∈ gsB l k e, n < 256 := by
  intro n hn
  unfold gsB at hn
  obtain ⟨t, ht, hn⟩ := List.mem_flatMap.1 hn
  exact bys_lt (gsT_can h k t ht) e n hn
theorem own_apartV {w : World} {b1 b2 s1 s2 n1 n2 : Nat} {T1 T2 : TypeId} {v1 v2 : Value} {x1 x2 : List Value} (h1 : w.ownsRow b1 T1 s1 v1 n1 x1) (h2 : w.ownsRow b2 T2 s2 v2 n2 x2) (hT : T1 ≠ T2) : v1.ownBlock = none ∨ v1.ownBlock ≠ v2.ownBlock := by
  rcases hk : v1.ownBlock with _ | k
  · exact .inl rfl
  · right
    intro e
    rcases h2.2 with ⟨rfl, _⟩ | ⟨g1, cap, cur, rfl, _, hg, _⟩
    · cases e
    · obtain rfl : k = g1 := by simpa [Value.ownBlock] using e
      exact own_ty h1 hg hT hk
/-- What is kept from token to token. -/
structure BkW (w1 : World) (l : List Tok) (eight : Bool) (k : Nat) (va vb : Value) (W : World) : Prop where
  a : W.ownsRow w1.heap.size 5 1 va (gsB l k eight).length (u8s (gsB l k eight))
  b : ∃ xs : List (Array Value), W.ownsRow w1.heap.size 31 6 vb (gsT l k).length (xs.flatMap Array.toList) ∧ RTl w1 xs (gsT l k)
  bel : Below w1.heap.size w1 W
theorem BkW.start (w1 : World) (l : List Tok) (eight : Bool) : BkW w1 l eight 0 (.slice none 0 0) (.slice none 0 0) w1 :=
  ⟨World.ownsRow_nil _ _ _ _, ⟨[], World.ownsRow_nil _ _ _ _, trivial⟩, Below.refl _ _⟩
theorem BkW.next {w1 W W' : World} {l : List Tok} {eight : Bool} {k : Nat} {va vb : Value} (h : BkW w1 l eight k va vb W) (hb : Below W.heap.size W W') : BkW w1 l eight k va vb W' := by
  obtain ⟨xs, h1, h2⟩ := h.b
  exact ⟨own_more h.a hb, ⟨xs, own_more h1 hb, h2⟩, h.bel.trans (hb.mono h.bel.size)⟩
theorem BkW.skip {w1 W : World} {l : List Tok} {eight : Bool} {k : Nat} {va vb : Value} (h : BkW w1 l eight k va vb W) (hk : k < l.length) (ho : okB l[k] = false) : BkW w1 l eight (k + 1) va vb W := by
  have e1 := gsT_no hk ho
  have e2 : gsB l (k + 1) eight = gsB l k eight := by unfold gsB; rw [e1]
  exact ⟨by rw [e2]; exact h.a, by rw [e1]; exact h.b, h.bel⟩
/-- .. where its bytes stand there already. -/
structure BkM (w1 : World) (l : List Tok) (eight : Bool) (k : Nat) (va vb : Value) (W : World) : Prop where
  a : W.ownsRow w1.heap.size 5 1 va (gsB l (k + 1) eight).length (u8s (gsB l (k + 1) eight))
  b : ∃ xs : List (Array Value), W.ownsRow w1.heap.size 31 6 vb (gsT l k).length (xs.flatMap Array.toList) ∧ RTl w1 xs (gsT l k)
  bel : Below w1.heap.size w1 W
theorem BkM.next {w1 W W' : World} {l : List Tok} {eight : Bool} {k : Nat} {va vb : Value} (h : BkM w1 l eight k va vb W) (hb : Below W.heap.size W W') : BkM w1 l eight k va vb W' := by
  obtain ⟨xs, h1, h2⟩ := h.b
  exact ⟨own_more h.a hb, ⟨xs, own_more h1 hb, h2⟩, h.bel.trans (hb.mono h.bel.size)⟩
theorem BkW.mid {w1 W W1 : World} {l : List Tok} {eight : Bool} {k n1 : Nat} {va vb va' : Value} {x1 : List Value} (h : BkW w1 l eight k va vb W) (e1 : n1 = (gsB l (k + 1) eight).length) (z1 : x1 = u8s (gsB l (k + 1) eight))
    (o1 : W1.ownsRow w1.heap.size 5 1 va' n1 x1) (g1 : W.grownBy W1 va.ownBlock) : BkM w1 l eight k va' vb W1 := by
  subst e1 z1
  obtain ⟨xs, h1, h2⟩ := h.b
  exact ⟨o1, ⟨xs, World.ownsRow.kept (row := va.ownBlock) h1 g1 (own_apartV h1 h.a (by decide)), h2⟩, below_row h.bel g1 (own_ge h.a) h.bel.size⟩
theorem BkM.push {w1 W W1 : World} {l : List Tok} {eight : Bool} {k n2 : Nat} {va vb vb' : Value} {xs : List (Array Value)} {x2 : List Value} {X : Array Value} (h : BkM w1 l eight k va vb W) (hk : k < l.length) (ho : okB l[k] = true) (h1 : W.ownsRow w1.heap.size 31 6 vb (gsT l k).length (xs.flatMap Array.toList)) (h2 : RTl w1 xs (gsT l k))
    (hX : ∃ A c B d, X = l[k].cs A c B d ∧ RInts w1 A l[k].ps ∧ RByt w1 B l[k].dt) (e2 : n2 = (gsT l k).length + 1) (z2 : x2 = xs.flatMap Array.toList ++ X.toList)
    (o2 : W1.ownsRow w1.heap.size 31 6 vb' n2 x2) (g2 : W.grownBy W1 vb.ownBlock) : BkW w1 l eight (k + 1) va vb' W1 := by
  subst e2 z2
  refine ⟨World.ownsRow.kept (row := vb.ownBlock) h.a g2 (own_apartV h.a h1 (by decide)), ⟨xs ++ [X], ?_, ?_⟩, below_row h.bel g2 (own_ge h1) h.bel.size⟩
  · rw [gsT_yes hk ho, List.length_append, List.flatMap_append, List.flatMap_singleton]
    exact o2
  · rw [gsT_yes hk ho]
    exact RTl.snoc hX h2
end Go.Proofs.YtpiliicphoacfaaDoor

namespace Go.Proofs.YtpiliicphoacfaaDoor

open Go.RowKit Go.Sort

theorem bcell {W w1 : World} (hb : Below W.heap.size W w1) : (∀ b o, b < W.heap.size → w1.cell? ⟨b, o, none⟩ = W.cell? ⟨b, o, none⟩) ∧ (∀ b o, b < W.heap.size → w1.frozen? ⟨b, o, none⟩ = W.frozen? ⟨b, o, none⟩) :=
  ⟨fun b o h => hb.cell (p := ⟨b, o, none⟩) h, fun b o h => hb.frozen (p := ⟨b, o, none⟩) h⟩
theorem dec_small (n : Nat) (h : n < 10) : bytesOf (Lib.decDigits n) = ⟨#[UInt8.ofNat (48 + n)]⟩ := by rw [Lib.decDigits, dif_pos h]; rfl
theorem dec_more (n : Nat) (h : ¬ n < 10) : bytesOf (Lib.decDigits n) = bytesOf (Lib.decDigits (n / 10)) ++ ⟨#[UInt8.ofNat (48 + n % 10)]⟩ := by
  rw [Lib.decDigits, dif_neg h]
  unfold bytesOf
  apply ByteArray.ext
  simp
theorem below_of_drew {B : Nat} {w w' : World} (h : RowKit.Below B w.drew w') : RowKit.Below B w w' := ⟨h.os, h.tape, h.output, h.size, h.block⟩
theorem conv_one (W : World) (g : Nat) (x : Int) (h : W.cell? ⟨g, 0, none⟩ = some (.int .u8 x)) : (convert 24 9 (.slice (some ⟨g, 0, none⟩) 1 1)).run Tryd.prog W = .ok (.string ⟨#[UInt8.ofNat x.toNat]⟩) W :=
  run_convert_bytes_arg W 24 5 Tryd.underlying24 Tryd.underlying5 g 0 1 1 [x] rfl (fun i hi => by
    obtain rfl : i = 0 := by simp at hi; omega
    simpa using h) 9 Tryd.underlying9
theorem conv_new (W : World) (x : Int) (B : UInt8) (hB : UInt8.ofNat x.toNat = B) : (convert 24 9 (.slice (some ⟨W.heap.size, 0, none⟩) 1 1)).run Tryd.prog (W.alloc (.cells #[.int .u8 x] 5)) = .ok (.string ⟨#[B]⟩) (W.alloc (.cells #[.int .u8 x] 5)) := by
  subst hB
  exact conv_one _ _ x ((Blk.new W 5 #[.int .u8 x]).cell 0)


/-- What the reference writes, number by number. -/
def fmtT (ms : List Int) : Nat → ByteArray
  | 0 => ⟨#[]⟩
  | k + 1 => (if 0 < k then fmtT ms k ++ ⟨#[59]⟩ else fmtT ms k) ++ bytesOf (digs (ms.getD k 0))
theorem fmtT_size (ms : List Int) : ∀ k, (fmtT ms k).size ≤ 6 * k
  | 0 => by simp [fmtT]; decide
  | k + 1 => by
    have h1 := fmtT_size ms k
    have h2 := digs_len (ms.getD k 0)
    have h3 : (bytesOf (digs (ms.getD k 0))).size ≤ 5 := by
      show (digs (ms.getD k 0)).toArray.size ≤ 5
      simpa using h2
    have h4 : (⟨#[59]⟩ : ByteArray).size = 1 := rfl
    unfold fmtT
    split
    · simp only [ByteArray.size_append]; omega
    · simp only [ByteArray.size_append]; omega
theorem fmtT_join (ms : List Int) (k : Nat) (hk : k ≤ ms.length) : fmtT ms k = bytesOf (Lib.join ((ms.take k).map digs) [59]) := by
  induction k with
  | zero => rfl
  | succ k ih =>
    have hlt : k < ms.length := by omega
    have hg : ms.getD k 0 = ms[k] := by simp [List.getD, List.getElem?_eq_getElem hlt]
    rw [fmtT, ih (by omega), hg, take_snoc ms k hlt, List.map_append]
    rcases Nat.eq_zero_or_pos k with rfl | h0
    · apply ByteArray.ext; simp [Lib.join_nil, Lib.join_one, bytesOf]
    · rw [if_pos h0]
      obtain ⟨x, r, hx⟩ : ∃ x r, ms.take k = x :: r := by
        cases h : ms.take k with
        | nil =>
          have h2 : (ms.take k).length = k := by rw [List.length_take]; omega
          rw [h] at h2; simp at h2; omega
        | cons x r => exact ⟨x, r, rfl⟩
      rw [hx, List.map_cons, List.cons_append, Lib.join_cons, Lib.join_cons]
      have e : Lib.joinTail [59] (List.map digs r ++ List.map digs [ms[k]]) = Lib.joinTail [59] (List.map digs r) ++ ([59] ++ digs ms[k]) := by simp [Lib.joinTail]
      rw [e]
      apply ByteArray.ext
      simp [bytesOf]


end Go.Proofs.YtpiliicphoacfaaDoor

namespace Go.Proofs.YtpiliicphoacfaaDoor

open Go Go.RowKit

def TlP (k : Int) (c m : Nat) (ps : List Int) (s : ByteArray) (dt : List Nat) (u : Value) : Prop := ∃ P pc D dc, u = .agg (tkC k (c : Int) (m : Int) P ps pc s D dt dc) ∧ ps.length ≤ pc ∧ dt.length ≤ dc
def TlF (B : Nat) (k : Int) (c m : Nat) (ps : List Int) (s : ByteArray) (dt : List Nat) (u : Value) (W : World) : Prop := ∃ P pc D dc, u = .agg (tkC k (c : Int) (m : Int) P ps pc s D dt dc) ∧ OInts W B (.slice P ps.length pc) ps ∧ OByt W B (.slice D dt.length dc) dt
def cellsV : Value → Array Value
  | .agg cs => cs
  | _ => #[]
theorem own_stab2 {ks : Kinds} {wr w w' : World} {T : TypeId} {n : Nat} {v : Value} {xs : List Value} (h : T ∉ boxes ks) (hk : Kept ks wr w w') (ho : w.ownsRow wr.heap.size T 1 v n xs) : w'.ownsRow wr.heap.size T 1 v n xs := by
  obtain ⟨hl, hr⟩ := ho
  rcases hr with ⟨rfl, hn⟩ | ⟨g, cap, cur, rfl, hb, hg, r⟩
  · exact ⟨hl, .inl ⟨rfl, hn⟩⟩
  · have hlt : g < w.heap.size := Blk.lt (show Blk w g T cur from hg)
    refine ⟨hl, .inr ⟨g, cap, cur, rfl, hb, (hk.block g hlt hb (fun cs T' fr e => ?_)).trans hg, r⟩⟩
    rw [hg] at e
    injection e with e
    injection e with _ e2 _
    rw [← e2]
    exact h
theorem tl_stab (ks : Kinds) (wr : World) (k : Int) (c m : Nat) (ps : List Int) (s : ByteArray) (dt : List Nat) (h1 : 3 ∉ boxes ks) (h2 : 5 ∉ boxes ks) : ∀ v w w', Kept ks wr w w' → TlF wr.heap.size k c m ps s dt v w → TlF wr.heap.size k c m ps s dt v w' := by
  rintro v w w' hk ⟨P, pc, D, dc, e, ho, hb⟩
  exact ⟨P, pc, D, dc, e, own_stab2 h1 hk ho, own_stab2 h2 hk hb⟩
theorem tl_same {B : Nat} {k : Int} {c m : Nat} {ps : List Int} {s : ByteArray} {dt : List Nat} {P D : Option Addr} {pc dc : Nat} {W : World} (h : TlF B k c m ps s dt (.agg (tkC k (c : Int) (m : Int) P ps pc s D dt dc)) W) : OInts W B (.slice P ps.length pc) ps ∧ OByt W B (.slice D dt.length dc) dt := by
  obtain ⟨P', pc', D', dc', e, ho, hb⟩ := h
  unfold tkC at e
  simp only [Value.agg.injEq, Array.mk.injEq, List.cons.injEq, Value.slice.injEq, true_and, and_true] at e
  obtain ⟨⟨rfl, rfl⟩, rfl, rfl⟩ := e
  exact ⟨ho, hb⟩
theorem tl_own {B : Nat} {k : Int} {c m : Nat} {P : Option Addr} {ps : List Int} {pc : Nat} {s : ByteArray} {D : Option Addr} {dt : List Nat} {dc : Nat} (hp : ps.length ≤ 17592186044416) (hd : dt.length ≤ 140737488355328) {w : World} (hB : B ≤ w.heap.size) (hr : RInts w P ps) (hb : RByt w D dt) :
    Calls Tryd.prog 7 #[.agg (tkC k (c : Int) (m : Int) P ps pc s D dt dc)] w fun e w' => ∃ u, e = .returned u ∧ TlP k c m ps s dt u ∧ TlF B k c m ps s dt u w' ∧ Below w.heap.size w w' := by
  refine (lawOwn_any k c m P ps pc s D dt dc hp hd w hr hb).mono ?_
  rintro e w' ⟨⟨P', pc', D', dc', rfl, h1, h2, ho, hb'⟩, hbl⟩
  exact ⟨_, rfl, ⟨P', pc', D', dc', rfl, h1, h2⟩, ⟨P', pc', D', dc', rfl, own_base ho hB, own_base hb' hB⟩, hbl⟩
/-- What is answered of the bytes, where the token can be. -/
theorem bytes_zero (k : Int) (c m : Nat) (P : Option Addr) (ps : List Int) (pc : Nat) (s : ByteArray) (D : Option Addr) (dt : List Nat) (dc : Nat) (hc : c < 256) (hsz : s.size ≤ maxLen) (hp : ps.length ≤ maxLen) (hpc : ps.length ≤ pc) (hd : dt.length ≤ maxLen) (eight : Bool) (hz : checkP k c m ps s dt = 0) (w : World) (ht : Ten w) (hr : RInts w P ps) (hb : RByt w D dt) :
    Calls Tryd.prog 8 #[.agg (tkC k (c : Int) (m : Int) P ps pc s D dt dc), .bool eight] w fun e w' => ∃ A n, e = .returned (.tuple #[.slice A (bytesL k c m ps s dt eight).length n, .int .i64 0]) ∧ RByt w' A (bytesL k c m ps s dt eight) ∧ Below w.heap.size w w' := by
  refine (bytes_any k c m P ps pc s D dt dc hc hsz hp hpc hd eight w ht hr hb).mono ?_
  rintro e w' ⟨h | ⟨_, v, rfl, ho⟩, hbl⟩
  · exact absurd hz h.1
  · obtain ⟨A, n, rfl⟩ := ho.form
    exact ⟨A, n, rfl, ho.reads, hbl⟩
end Go.Proofs.YtpiliicphoacfaaDoor

namespace Go.Proofs.YtpiliicphoacfaaDoor

open Go Go.RowKit


theorem conv_new1 (W : World) (n : Nat) : (convert 24 9 (.slice (some ⟨W.heap.size, 0, none⟩) 1 1)).run Tryd.prog (W.alloc (.cells #[.int .u8 (n : Int)] 5)) = .ok (.string (bstr [n])) (W.alloc (.cells #[.int .u8 (n : Int)] 5)) := by
  have h : RByt (W.alloc (.cells #[.int .u8 (n : Int)] 5)) (some ⟨W.heap.size, 0, none⟩) [n] := Reads.of_own (World.ownsRow_lit (e := 5) (size := 1) W #[.int .u8 (n : Int)] 1 (Nat.le_refl _) (by unfold maxLen; omega) rfl)
  exact conv_by h 1
theorem bstr_append (a b : List Nat) : bstr (a ++ b) = bstr a ++ bstr b := by
  apply ByteArray.ext
  apply Array.ext'
  rw [bstr_list, List.map_append]
  show _ = (bstr a ++ bstr b).data.toList
  rw [ByteArray.data_append, Array.toList_append, bstr_list, bstr_list]
theorem bstr_nat (s : ByteArray) : bstr (natL s.data.toList) = s := by
  apply ByteArray.ext
  apply Array.ext'
  rw [bstr_list]
  unfold natL
  rw [List.map_map]
  have : (UInt8.ofNat ∘ UInt8.toNat) = id := by funext x; simp
  rw [this, List.map_id]
theorem id_parts (c m : Nat) (s : ByteArray) : bstr (signsL c m [] s) = (if m = 0 then (ByteArray.mk #[]) else bstr [m]) ++ s ++ bstr [c] := by
  unfold signsL
  rw [fmt_none]
  simp only [bstr_append, bstr_nat]
  have e0 : bstr (natL []) = ByteArray.mk #[] := rfl
  rw [e0]
  by_cases h : m = 0
  · rw [if_pos h, if_pos h]
    apply ByteArray.ext; apply Array.ext'
    simp [ByteArray.data_append, bstr]
    rfl
  · rw [if_neg h, if_neg h]
    apply ByteArray.ext; apply Array.ext'
    simp [ByteArray.data_append]


end Go.Proofs.YtpiliicphoacfaaDoor

namespace Go.Proofs.YtpiliicphoacfaaDoor

open Go Go.RowKit

section

variable {P : Program} (w : World)

theorem below_gn {w w' : World} (h : w.grownBy w' none) : Below w.heap.size w w' := ⟨h.os, h.tape, h.output, h.size, fun k hk => h.block k hk (by simp)⟩
theorem run_append_mild (base : Nat) (t ty e : TypeId) (i : TypeInfo) (z : Value) (bytes : Nat) (ht : P.underlying t = some (.slice e)) (hi : P.info? e = some i) (hz : i.zero = some z)
    (hsize : i.size = 1) (hby : i.bytes = bytes) (hzs : z.cells.size = 1)
    (g n cap : Nat) (xs : List Value) (hown : w.ownsRow base e 1 (.slice (some ⟨g, 0, none⟩) n cap) n xs)
    (a : Addr) (m c : Nat) (news : List Value) (hl : news.length = m) (hnews : ∀ j u, news[j]? = some u → w.cell? (a.add j) = some u) (h1 : ∀ u ∈ news, u.oneCell' = true)
    (h63 : n + m ≤ maxLen) (hbytes : (n + m) * bytes ≤ 140737488355328) (hbase : base ≤ w.heap.size) :
    ∃ u w', (Builtin.append_ #[t, t] ty #[.slice (some ⟨g, 0, none⟩) n cap, .slice (some a) m c]).run P w = .ok u w' ∧ w'.ownsRow base e 1 u (n + m) (xs ++ news) ∧ Below base w w' ∧
      (∀ v n' ys, (n' ≤ n ∨ (n' = n + m ∧ ys = xs ++ news)) → w.ownsRow base e 1 v n' ys → w'.ownsRow base e 1 v n' ys) ∧
      ∀ (g2 : Nat) cur2 T2 fz2, fz2 ≠ (0, 0) → w.heap[g2]? = some (.cells cur2 T2 fz2) → w'.heap[g2]? = some (.cells cur2 T2 fz2) := by
  have hown0 := hown
  rcases hown.2 with ⟨h, _⟩ | ⟨g', cap', cur, h, hbg, hg, hnc, hcm, hcs, htake⟩
  · simp at h
  · simp only [Value.slice.injEq, Option.some.injEq, Addr.mk.injEq, and_true, true_and] at h
    obtain ⟨rfl, rfl⟩ := h
    by_cases hroom : n + m ≤ cap
    · obtain ⟨w', hr, ho', hgr⟩ := run_append_fits (P := P) w base t ty e i 1 ht hi hsize g n cap xs hown0 a m c news (by simpa using hl) hnews h1 hroom
      refine ⟨_, w', hr, ho', ⟨hgr.os, hgr.tape, hgr.output, hgr.size, fun k hk => hgr.block k (by omega) (by simp; omega)⟩, ?_, fun g2 cur2 T2 fz2 hf hg2 => ?_⟩
      rotate_left
      · have hlt : g2 < w.heap.size := by
          rcases Nat.lt_or_ge g2 w.heap.size with h | h
          · exact h
          · rw [Array.getElem?_eq_none h] at hg2; cases hg2
        refine (hgr.block g2 hlt (by
          simp only [ne_eq, Option.some.injEq]
          rintro rfl
          rw [hg] at hg2
          injection hg2 with hg2
          injection hg2 with _ _ e3
          exact hf e3.symm)).trans hg2
      intro v n' ys hn' hv
      obtain ⟨hl', hv'⟩ := hv
      rcases hv' with ⟨rfl, h0⟩ | ⟨g2, cap2, cur2, rfl, hb2, hg2, hn2, hc2, hs2, ht2⟩
      · exact ⟨hl', .inl ⟨rfl, h0⟩⟩
      · have hlt : g2 < w.heap.size := Blk.lt (show Blk w g2 e cur2 from hg2)
        by_cases e2 : g2 = g
        · subst e2
          rw [hg] at hg2
          injection hg2 with hg2
          injection hg2 with hg2
          subst hg2
          rcases ho'.2 with ⟨h, _⟩ | ⟨g3, cap3, cur3, h, _, hg3, _, _, hs3, ht3⟩
          · simp at h
          · simp only [Value.slice.injEq, Option.some.injEq, Addr.mk.injEq, and_true, true_and] at h
            obtain ⟨rfl, rfl⟩ := h
            refine ⟨hl', .inr ⟨g2, cap2, cur3, rfl, hb2, hg3, hn2, hc2, by rw [hs3, ← hs2, hcs], ?_⟩⟩
            rcases hn' with hn' | ⟨rfl, rfl⟩
            · rw [← ht2]
              have q1 : cur3.toList.take (n' * 1) = (xs ++ news).take (n' * 1) := by rw [← ht3, List.take_take]; congr 1; omega
              have q2 : cur.toList.take (n' * 1) = xs.take (n' * 1) := by rw [← htake, List.take_take]; congr 1; omega
              rw [q1, q2, List.take_append_of_le_length]
              rw [hown0.1]; omega
            · exact ht3
        · exact ⟨hl', .inr ⟨g2, cap2, cur2, rfl, hb2, (hgr.block g2 hlt (by simp; exact e2)).trans hg2, hn2, hc2, hs2, ht2⟩⟩
    · obtain ⟨u, w', hr, ho', hgr⟩ := run_append_arg_grows (P := P) w t ty e i z 1 bytes ht hi hz hsize hby hzs (by decide) ⟨g, 0, none⟩ n cap xs hown0.1 (fun j u hu => by
          have hj : j < n := by
            have := (List.getElem?_eq_some_iff.1 hu).1
            rw [hown0.1] at this; omega
          have := World.ownsRow.cellAt hown0 j (by omega)
          have ha : (⟨g, 0, none⟩ : Addr).add j = ⟨g, j, none⟩ := by unfold Addr.add; split <;> simp_all
          rw [ha, this, hu]) a m c news (by simpa using hl) hnews (by omega) h63 hbytes
      have hb := below_gn hgr
      refine ⟨u, w', hr, own_base ho' hbase, hb.mono hbase, ?_, fun g2 cur2 T2 fz2 _ hg2 => ?_⟩
      rotate_left
      · have hlt : g2 < w.heap.size := by
          rcases Nat.lt_or_ge g2 w.heap.size with h | h
          · exact h
          · rw [Array.getElem?_eq_none h] at hg2; cases hg2
        exact (hb.block g2 hlt).trans hg2
      intro v n' ys _ hv
      obtain ⟨hl', hv'⟩ := hv
      rcases hv' with ⟨rfl, h0⟩ | ⟨g2, cap2, cur2, rfl, hb2, hg2, hn2, hc2, hs2, ht2⟩
      · exact ⟨hl', .inl ⟨rfl, h0⟩⟩
      · have hlt : g2 < w.heap.size := Blk.lt (show Blk w g2 e cur2 from hg2)
        exact ⟨hl', .inr ⟨g2, cap2, cur2, rfl, hb2, (hb.block g2 hlt).trans hg2, hn2, hc2, hs2, ht2⟩⟩
end

/-- No box and no store among the kinds: what turns of old memory is nothing. -/
theorem mild_of {ks : Kinds} {ops : Array Oper} {i : Nat} {wr w w' : World} (hs : ∀ x ∈ ks, ∃ p F, x.2 = .letter p F) (hb : Below wr.heap.size w w') (hl : ∀ x ∈ ks, x.1 ≠ i → dep ops x.1 i = false → ∀ p F, x.2 = .letter p F → ∀ v, F v w → F v w') : MildK ks ops i wr w w' :=
  ⟨fun h => ⟨hb.os.trans h.os, hb.tape.trans h.tape, hb.output.trans h.output, Nat.le_trans h.size hb.size, fun k hk hS => (hb.block k hk).trans (h.block k hk hS)⟩,
   fun j b T old new hj => (by obtain ⟨p, F, e⟩ := hs _ (kind_mem hj (by simp)); cases e),
   fun j s T z n hj => (by obtain ⟨p, F, e⟩ := hs _ (kind_mem hj (by simp)); cases e),
   fun j f p F hj hji hd v => (by
     obtain ⟨q, G, e⟩ := hs _ (kind_mem hj (by simp))
     injection e with e1 e2 e3
     subst e1
     exact hl _ (kind_mem hj (by simp)) hji hd p F rfl v), hb.size,
   fun j b p F hj => (by obtain ⟨q, G, e⟩ := hs _ (kind_mem hj (by simp)); cases e),
   fun j b hj => (by obtain ⟨q, G, e⟩ := hs _ (kind_mem hj (by simp)); cases e)⟩
/-- Bytes of a string, as a conversion makes them: their block bears a mark. -/
def StrF (B : Nat) (n : Nat) (xs : List Value) (u : Value) (W : World) : Prop := ∃ g cap cur fz, u = .slice (some ⟨g, 0, none⟩) n cap ∧ B ≤ g ∧ fz ≠ (0, 0) ∧ W.heap[g]? = some (.cells cur 5 fz) ∧ cur.toList.take n = xs
theorem str_stab (ks : Kinds) (wr : World) (n : Nat) (xs : List Value) (h : boxes ks = []) : ∀ v w w', Kept ks wr w w' → StrF wr.heap.size n xs v w → StrF wr.heap.size n xs v w' := by
  rintro v w w' hk ⟨g, cap, cur, fz, e, hb, hf, hg, ht⟩
  have hlt : g < w.heap.size := by
    rcases Nat.lt_or_ge g w.heap.size with h | h
    · exact h
    · rw [Array.getElem?_eq_none h] at hg; cases hg
  exact ⟨g, cap, cur, fz, e, hb, hf, (hk.block g hlt hb (fun cs T fr _ => by rw [h]; simp)).trans hg, ht⟩
theorem str_cell {B n : Nat} {xs : List Value} {g cap : Nat} {W : World} (h : StrF B n xs (.slice (some ⟨g, 0, none⟩) n cap) W) : ∀ j u, xs[j]? = some u → W.cell? ((⟨g, 0, none⟩ : Addr).add j) = some u := by
  obtain ⟨g', cap', cur, fz, e, _, _, hg, ht⟩ := h
  simp only [Value.slice.injEq, Option.some.injEq, Addr.mk.injEq, and_true, true_and] at e
  obtain ⟨rfl, rfl⟩ := e
  intro j u hu
  have ha : (⟨g, 0, none⟩ : Addr).add j = ⟨g, j, none⟩ := by unfold Addr.add; split <;> simp_all
  rw [ha, cell_of_row W g j cur 5 fz hg, ← hu, ← ht, List.getElem?_take]
  have hj : j < n := by
    have := (List.getElem?_eq_some_iff.1 hu).1
    rw [← ht, List.length_take] at this; omega
  rw [if_pos hj]
  simp
/-- A conversion of a text makes them. -/
theorem str_made (B : Nat) (s : ByteArray) (w : World) (hB : B ≤ w.heap.size) : ∃ u w', (convert 9 24 (.string s)).run Tryd.prog w = .ok u w' ∧ (∃ g cap, u = .slice (some ⟨g, 0, none⟩) s.size cap) ∧ StrF B s.size (Lib.strCells s) u w' ∧ Below w.heap.size w w' := by
  refine ⟨_, _, Lib.run_convert_string_bytes w 9 24 5 s Tryd.underlying9 Tryd.underlying24 Tryd.underlying5, ⟨_, _, rfl⟩, ⟨w.heap.size, _, _, _, rfl, hB, ?_, Lib.bytesWorld_at_new w _ s, ?_⟩, ?_⟩
  · intro e; injection e with _ e; omega
  · unfold Lib.bytesCells Lib.strCells
    simp only [Array.toList_append, Array.toList_map]
    rw [List.take_append_of_le_length (by simp)]
    rw [List.take_of_length_le (by simp)]
  · exact ⟨rfl, rfl, rfl, by rw [Lib.bytesWorld_size]; omega, fun k hk => Lib.bytesWorld_at_old w _ s k hk⟩
end Go.Proofs.YtpiliicphoacfaaDoor

namespace Go.Proofs.YtpiliicphoacfaaDoor

open Go Go.RowKit

def StrP (n : Nat) (u : Value) : Prop := ∃ g cap, u = .slice (some ⟨g, 0, none⟩) n cap
theorem own_slice {w : World} {B n : Nat} {T : TypeId} {v : Value} {xs : List Value} (h : w.ownsRow B T 1 v n xs) (hn : 0 < n) : ∃ g cap, v = .slice (some ⟨g, 0, none⟩) n cap := by
  rcases h.2 with ⟨_, h0⟩ | ⟨g, cap, cur, e, _⟩
  · omega
  · exact ⟨g, cap, e⟩
theorem exec_convert {P : Program} {o : Oper} {a : Act} (x : Operand) (t u : TypeId) (ho : o.op = .convert t u x) {y v : Value} {w w' : World} (hx : a.eval x = y) (hr : (convert t u y).run P w = .ok v w') : (execOp a.eval o).run P w = .ok (.value v) w' := by
  unfold execOp
  simp only [ho, Sem.run_bind, Sem.run_pure, hx, hr, Result.andThen_ok]
theorem strCells_one (s : ByteArray) : ∀ u ∈ Lib.strCells s, u.oneCell' = true := by
  intro u hu
  unfold Lib.strCells at hu
  obtain ⟨b, _, rfl⟩ := List.mem_map.1 hu
  rfl

end Go.Proofs.YtpiliicphoacfaaDoor

namespace Go.Proofs.YtpiliicphoacfaaDoor

open Go Go.RowKit

theorem str_world (W : World) (s : ByteArray) : Below W.heap.size W (Lib.bytesWorld W 5 s) ∧ RByt (Lib.bytesWorld W 5 s) (some ⟨W.heap.size, 0, none⟩) (natL s.data.toList) := by
  obtain ⟨u, w', hr, _, hF, hb⟩ := str_made W.heap.size s W (Nat.le_refl _)
  rw [Lib.run_convert_string_bytes W 9 24 5 s Tryd.underlying9 Tryd.underlying24 Tryd.underlying5] at hr
  injection hr with e1 e2
  subst e1 e2
  refine ⟨hb, by simp, fun hn => ⟨⟨W.heap.size, 0, none⟩, rfl, by rw [Lib.bytesWorld_size]; simp, fun j u hu => ?_⟩⟩
  refine str_cell hF j u ?_
  rw [strCells_nat]
  exact hu
/-- The token of the call's own, and the bytes so far. -/
def KR (w : World) (x : Array Value) (v : Value) (l : List Nat) (W : World) : Prop := Blk W w.heap.size 31 x ∧ Below w.heap.size w W ∧ OByt W (w.heap.size + 1) v l ∧ w.heap.size + 1 ≤ W.heap.size
theorem KR.next {w W W' : World} {x : Array Value} {v : Value} {l : List Nat} (h : KR w x v l W) (hb : Below W.heap.size W W') : KR w x v l W' := ⟨h.1.next hb, h.2.1.trans (hb.mono h.2.1.size), h.2.2.1.next hb, Nat.le_trans h.2.2.2 hb.size⟩
theorem KR.append {w W W' : World} {x : Array Value} {v v' : Value} {l r : List Nat} (h : KR w x v l W) (ho : W'.ownsRow (w.heap.size + 1) 5 1 v' (l.length + r.length) (l.map (fun (n : Nat) => Value.int .u8 (n : Int)) ++ r.map (fun (n : Nat) => Value.int .u8 (n : Int)))) (hg : W.grownBy W' v.ownBlock) : KR w x v' (l ++ r) W' :=
  ⟨h.1.below (below_str h.2.2.1 h.2.2.2 hg) (by omega), h.2.1.trans ((below_str h.2.2.1 h.2.2.2 hg).mono (by omega)), by unfold OByt; rw [List.length_append, List.map_append]; exact ho, Nat.le_trans h.2.2.2 (below_str h.2.2.1 h.2.2.2 hg).size⟩
theorem ko_start {w w2 w3 : World} {x : Array Value} {v : Value} {l : List Nat} (h : K1 w 31 x w2) (ho : OByt w3 w2.heap.size v l) (hb : Below w2.heap.size w2 w3) : KR w x v l w3 :=
  ⟨h.1.next hb, h.2.trans (hb.mono h.2.size), own_base (obyt_own ho) (by have := Blk.lt h.1; omega), by have := Blk.lt h.1; have := hb.size; omega⟩

theorem KR.appendN {w W W' : World} {x : Array Value} {v v' : Value} {l r : List Nat} {n : Nat} (hn : r.length = n) (h : KR w x v l W) (ho : W'.ownsRow (w.heap.size + 1) 5 1 v' (l.length + n) (l.map (fun (n : Nat) => Value.int .u8 (n : Int)) ++ r.map (fun (n : Nat) => Value.int .u8 (n : Int)))) (hg : W.grownBy W' v.ownBlock) : KR w x v' (l ++ r) W' := by
  subst hn; exact KR.append h ho hg
theorem str_reads (W : World) (s : ByteArray) : Reads (Lib.bytesWorld W 5 s) (Lib.bytesWorld W 5 s).heap.size 1 (some ⟨W.heap.size, 0, none⟩) s.size ((natL s.data.toList).map fun (n : Nat) => Value.int .u8 (n : Int)) := by
  have h := (str_world W s).2
  unfold RByt at h
  rw [natL_len, dlen] at h
  exact h
theorem lit_reads (W : World) (n : Nat) : RByt (W.alloc (.cells #[.int .u8 (n : Int)] 5)) (some ⟨W.heap.size, 0, none⟩) [n] := Reads.of_own (World.ownsRow_lit (e := 5) (size := 1) W #[.int .u8 (n : Int)] 1 (Nat.le_refl _) (by unfold maxLen; omega) rfl)


end Go.Proofs.YtpiliicphoacfaaDoor

namespace Go.Proofs.YtpiliicphoacfaaDoor

open Go Go.RowKit

/-- A byte of a text, as a number. -/
def byteAt (s : ByteArray) (k : Nat) : Nat := (s.data.toList.getD k 0).toNat
theorem byteAt_lt (s : ByteArray) (k : Nat) : byteAt s k < 256 := by unfold byteAt; exact UInt8.toNat_lt _
theorem byteAt_get (s : ByteArray) (k : Nat) (hk : k < s.size) : s[k].toNat = byteAt s k := by
  unfold byteAt
  rw [List.getD_eq_getElem?_getD, List.getElem?_eq_getElem (by rw [dlen]; exact hk), Option.getD_some, dat s k hk]
def markN (c : Nat) : Bool := decide (60 ≤ c) && decide (c ≤ 63)
def markedB (s : ByteArray) : Bool := decide (1 < s.size) && markN (byteAt s 0)
/-- The parts of a token of an id. -/
def tkM (s : ByteArray) : Nat := if markedB s then byteAt s 0 else 0
def tkS (s : ByteArray) : ByteArray := s.extract (if markedB s then 1 else 0) (s.size - 1)
def numsT (ns : List Int) : List Int := (ns.take 30).map clip65
/-- The bytes of a sequence; nothing, if there is none such. -/
def repL (kind : Int) (id data : ByteArray) (ns : List Int) (eight : Bool) : List Nat :=
  if id.size = 0 then []
  else if checkP kind (byteAt id (id.size - 1)) (tkM id) (numsT ns) (tkS id) (natL data.data.toList) = 0 then bytesL kind (byteAt id (id.size - 1)) (tkM id) (numsT ns) (tkS id) (natL data.data.toList) eight
  else []
set_option maxHeartbeats 1000000 in
theorem isMark_any (c : Nat) (w : World) :
    Calls Tryd.prog 77 #[.int .u8 (c : Int)] w fun e w' => e = .returned (.bool (markN c)) ∧ w = w' := by
  have h1 : decide (60 ≤ (c : Int)) = decide (60 ≤ c) := by rw [decide_eq_decide]; omega
  have h2 : decide ((c : Int) ≤ 63) = decide (c ≤ 63) := by rw [decide_eq_decide]; omega
  unfold markN
  rcases e1 : decide (60 ≤ c) with _ | _
  · rw [e1] at h1
    clear e1
    go_enter Tryd.func77, Tryd.ntmps77
    go_wp2_with fail
    go_ret
    exact ⟨rfl, rfl⟩
  · rw [e1] at h1
    clear e1
    generalize decide (c ≤ 63) = q at *
    go_enter Tryd.func77, Tryd.ntmps77
    go_wp2_with fail
    go_ret
    exact ⟨rfl, rfl⟩
/-- Bytes of a text, as a letter. -/
def SbP (n : Nat) (u : Value) : Prop := ∃ g cap, u = .slice (some ⟨g, 0, none⟩) n cap
/-- Parts of parts of a text. -/
theorem ext_ext (s : ByteArray) : (s.extract 0 (s.size - 1)).extract 1 (s.extract 0 (s.size - 1)).size = s.extract 1 (s.size - 1) := by
  rw [ByteArray.extract_extract, ByteArray.size_extract]
  try (congr 1 <;> omega)
theorem ext_size (s : ByteArray) (a b : Nat) (h : b ≤ s.size) : (s.extract a b).size = b - a := by rw [ByteArray.size_extract]; omega
theorem ext_at (s : ByteArray) (b : Nat) (h : 0 < b) (hb : b ≤ s.size) : byteAt (s.extract 0 b) 0 = byteAt s 0 := by
  rw [← byteAt_get _ 0 (by rw [ext_size s 0 b hb]; omega), ← byteAt_get s 0 (by omega)]
  rw [ByteArray.getElem_extract]
  try simp
theorem nums_len (ns : List Int) : (numsT ns).length ≤ 30 := by unfold numsT; simp; omega
theorem fmt_parse (ns : List Int) : parseV (bytesOf (fmtL ns)).data.toList = (numsT ns, 0) := by
  obtain ⟨h1, h2⟩ := fmt_back ns
  have e : (bytesOf (fmtL ns)).data.toList = fmtL ns := rfl
  rw [e, parseV_yes h1, h2]
  rfl
end Go.Proofs.YtpiliicphoacfaaDoor

namespace Go.Proofs.YtpiliicphoacfaaDoor

open Go Go.RowKit

theorem str_stab2 (ks : Kinds) (wr : World) (n : Nat) (xs : List Value) (h : 5 ∉ boxes ks) : ∀ v w w', Kept ks wr w w' → StrF wr.heap.size n xs v w → StrF wr.heap.size n xs v w' := by
  rintro v w w' hk ⟨g, cap, cur, fz, e, hb, hf, hg, ht⟩
  have hlt : g < w.heap.size := by
    rcases Nat.lt_or_ge g w.heap.size with h | h
    · exact h
    · rw [Array.getElem?_eq_none h] at hg; cases hg
  exact ⟨g, cap, cur, fz, e, hb, hf, (hk.block g hlt hb (fun cs T fr e2 => by
    rw [hg] at e2
    injection e2 with e2
    injection e2 with _ e3 _
    rw [← e3]; exact h)).trans hg, ht⟩
theorem own_cap {w : World} {base size n c : Nat} {e : TypeId} {A : Option Addr} {xs : List Value} (h : w.ownsRow base e size (.slice A n c) n xs) : n ≤ c := by
  rcases h.2 with ⟨hv, hn⟩ | ⟨g, cap, _, hv, _, _, hle, _⟩
  · omega
  · simp only [Value.slice.injEq] at hv
    omega
theorem rbyt_far {w : World} {g : Nat} {l : List Nat} (h : RByt w (some ⟨g, 0, none⟩) l) (p : Addr) (hne : g ≠ p.block) (u : Value) : RByt (w.setCell p u) (some ⟨g, 0, none⟩) l := by
  refine ⟨h.1, fun hn => ?_⟩
  obtain ⟨ad, e, hb, hc⟩ := h.2 hn
  refine ⟨ad, e, by simpa [World.setCell] using hb, fun j v hv => ?_⟩
  have e2 : ad = ⟨g, 0, none⟩ := (Option.some.inj e).symm
  rw [World.cell?_setCell_other w p _ u (fun e' => hne (by rw [e', block_of_add, e2]))]
  exact hc j v hv
theorem rints_put {w : World} {A : Option Addr} {ns : List Int} (h : RInts w A ns) (g : Nat) (hne : ∀ ad, A = some ad → ad.block ≠ g) (v0 v1 v2 v3 v4 v5 : Value) : RInts (put6 w g v0 v1 v2 v3 v4 v5) A ns :=
  (((((h.store ⟨g, 0, none⟩ hne v0).store ⟨g, 1, none⟩ hne v1).store ⟨g, 2, none⟩ hne v2).store ⟨g, 3, none⟩ hne v3).store ⟨g, 4, none⟩ hne v4).store ⟨g, 5, none⟩ hne v5
theorem rbyt_put {w : World} {b : Nat} {l : List Nat} (h : RByt w (some ⟨b, 0, none⟩) l) (g : Nat) (hne : b ≠ g) (v0 v1 v2 v3 v4 v5 : Value) : RByt (put6 w g v0 v1 v2 v3 v4 v5) (some ⟨b, 0, none⟩) l :=
  rbyt_far (rbyt_far (rbyt_far (rbyt_far (rbyt_far (rbyt_far h ⟨g, 0, none⟩ hne v0) ⟨g, 1, none⟩ hne v1) ⟨g, 2, none⟩ hne v2) ⟨g, 3, none⟩ hne v3) ⟨g, 4, none⟩ hne v4) ⟨g, 5, none⟩ hne v5
/-- A token that a call answers: its parts, in memory. -/
def Tkn (W : World) (e : Ending) (kind : Int) (c m : Nat) (ps : List Int) (s : ByteArray) (dt : List Nat) : Prop := ∃ P pc D dc, e = .returned (.agg (tkC kind (c : Int) (m : Int) P ps pc s D dt dc)) ∧ RInts W P ps ∧ ps.length ≤ pc ∧ RByt W D dt
def zero6 : Array Value := #[.int .i64 0, .int .u8 0, .int .u8 0, .slice none 0 0, .string ⟨#[]⟩, .slice none 0 0]
set_option maxRecDepth 100000 in
set_option maxHeartbeats 4000000 in
theorem seq_none (kind : Int) (data : ByteArray) (V : Value) (w : World) :
    Calls Tryd.prog 48 #[.int .i64 kind, .string ⟨#[]⟩, .string data, V] w fun e w' => Tkn w' e 0 0 0 [] ⟨#[]⟩ [] ∧ Below w.heap.size w w' := by
  have HK := Lib.hid (K1.start w 29 zero6)
  unfold zero6 at HK
  obtain ⟨a0, a1, a2, a3, a4, a5⟩ := six HK.out.1
  obtain ⟨f0, f1, f2, f3, f4, f5⟩ := six_fr HK.out.1
  go_enter Tryd.func48, Tryd.ntmps48
  go_wp2_with fail
  exact bodyPost_ret (v := .agg #[.int .i64 0, .int .u8 0, .int .u8 0, .slice none 0 0, .string ⟨#[]⟩, .slice none 0 0]) (by simp [results, Tryd.results48, go_sem, a0, a1, a2, a3, a4, a5]) rfl ⟨⟨none, 0, none, 0, rfl, rints_nil _, by simp, rbyt_nil _⟩, HK.out.2⟩
set_option maxRecDepth 100000 in
set_option maxHeartbeats 8000000 in
theorem seq_some (kind : Int) (id data : ByteArray) (A : Option Addr) (c : Nat) (ns : List Int) (hl : ns.length ≤ maxLen) (hc : ns.length ≤ c) (hid : 0 < id.size) (hi2 : id.size ≤ maxLen) (w : World) (ht : Ten w) (hr : RInts w A ns) :
    Calls Tryd.prog 48 #[.int .i64 kind, .string id, .string data, .slice A ns.length c] w fun e w' => Tkn w' e kind (byteAt id (id.size - 1)) (tkM id) (numsT ns) (tkS id) (natL data.data.toList) ∧ Below w.heap.size w w' := by
  have HF := Lib.hid (fun W t h => format_any A c ns hl hc W t h)
  have HP : Hid (∀ W, Calls Tryd.prog 76 #[.string (bytesOf (fmtL ns))] W fun e w' => Gave w' W.heap.size (numsT ns) 0 e ∧ Below W.heap.size W w') := Lib.hid (fun W => by
    have := parse_all (bytesOf (fmtL ns)) (by have := fmt_len ns; unfold maxLen; show (fmtL ns).toArray.size ≤ _; simp; omega) W
    rwa [fmt_parse] at this)
  have HT := Lib.hid ht; have HR := Lib.hid hr
  have HK := Lib.hid (K1.start w 29 zero6)
  unfold zero6 at HK
  have hne : id.toList.isEmpty = false := by
    have h : (id.toList == (ByteArray.mk #[]).toList) = false := by rw [str_nil]; exact decide_eq_false (by omega)
    rw [show (ByteArray.mk #[]).toList = [] from by rw [ByteArray.toList_eq]] at h
    cases hq : id.toList with
    | nil => rw [hq] at h; cases h
    | cons x xs => rfl
  obtain ⟨last, hlast⟩ : ∃ k, k = id.size - 1 := ⟨_, rfl⟩
  have hlt : last < id.size := by omega
  rw [← hlast]
  have hw1 : IntKind.i64.wrap ((id.size : Int) - 1) = (last : Int) := (IntWalk.i64_in _ (by unfold maxLen at hi2; omega)).trans (by omega)
  have hix := byteAt_get id last hlt
  have HLast := Lib.hid hlast
  have HMk := Lib.hid (fun W => isMark_any (byteAt id 0) W)
  clear ht hr hlast
  generalize bytesOf (fmtL ns) = fb at *
  go_enter Tryd.func48, Tryd.ntmps48
  go_wp2_with fail
  refine (HF.out _ (HT.out.next HK.out.2) (HR.out.next HK.out.2)).mono ?_
  rintro e w1 ⟨rfl, hb1⟩
  have HK1 := Lib.hid (K1.next HK.out hb1)
  clear hb1
  go_wp2_with fail
  refine (HP.out _).mono ?_
  rintro e w2 ⟨⟨P, pc, rfl, hown⟩, hb2⟩
  have HK2 := Lib.hid (K1.next HK1.out hb2); have HOwn := Lib.hid hown
  have HK1s : Hid (w.heap.size < w1.heap.size) := Lib.hid HK1.out.1.lt
  clear hb2 hown HK1
  go_upto_region 5 with fail
  have hle : last ≤ id.size := by omega
  have hb2 : byteAt id last < 256 := byteAt_lt id last
  have hex : ∃ sp : ByteArray, sp = id.extract 0 last := ⟨_, rfl⟩
  obtain ⟨sp, hsp⟩ := hex
  have hst := fun (W : World) (hB : w2.heap.size ≤ W.heap.size) => str_made w2.heap.size data W hB
  have HSt := Lib.hid hst
  clear hst
  refine wp_region_mix_lit (by kernel_rfl) [(9, .letter (SbP data.size) (StrF w2.heap.size data.size (Lib.strCells data))), (11, .alloc 12 29 #[.int .i64 0, .int .u8 0, .int .u8 0, .slice none 0 0, .string ⟨#[]⟩, .slice none 0 0] (fun β => #[.int .i64 kind, .int .u8 (byteAt id last : Nat), .int .u8 0, .slice P (numsT ns).length pc, .string (id.extract 0 last), β 9])), (12, .init 11)] (by kernel_rfl) (by kernel_rfl) (by kernel_rfl) (by rfl) (by simp [apartK] <;> omega) (by simp [startK]) (by simp only [List.forall_mem_cons]; exact ⟨str_stab2 _ _ _ _ (by simp [boxes, Kind.boxed]), trivial, trivial, by simp⟩) (⟨fun i => if i = 9 then .slice (some ⟨0, 0, none⟩) data.size 0 else .pointer (some ⟨w2.heap.size, 0, none⟩), by simp only [List.forall_mem_cons]; exact ⟨⟨0, 0, rfl⟩, ⟨_, rfl, Nat.le_refl _⟩, trivial, by simp⟩⟩) (fun β hβ => ?_)
  obtain ⟨g9, c9, e9⟩ := (hβ 9 : SbP data.size (β 9))
  repeat (
    refine lex_val (v := ?_) rfl rfl (fun w' hf => ?_) ?_
    rotate_left
    · go_simp
      try rfl
    try simp only [Act.put, List.setIfInBounds_toArray, List.set_cons_zero, List.set_cons_succ])
  refine lex_made rfl rfl (fun w' hf => ?_) ?_
  · obtain ⟨u, w3, hrun, hsb, hsf, hbb⟩ := HSt.out w' hf.only.size
    exact ⟨u, w3, by go_simp, hsb, hsf, hbb⟩
  try simp only [Act.put, List.setIfInBounds_toArray, List.set_cons_zero, List.set_cons_succ]
  repeat (
    refine lex_val (v := ?_) rfl rfl (fun w' hf => ?_) ?_
    rotate_left
    · go_simp
      try rfl
    try simp only [Act.put, List.setIfInBounds_toArray, List.set_cons_zero, List.set_cons_succ])
  refine lex_alloc rfl rfl (fun w' => ?_) ?_
  · go_simp
  try simp only [Act.put, List.setIfInBounds_toArray, List.set_cons_zero, List.set_cons_succ]
  refine lex_init rfl rfl rfl (fun bl w' hb hf hB => ⟨_, ?_, (repl6 hB (.int .i64 kind) (.int .u8 (byteAt id last : Nat)) (.int .u8 0) (.slice P (numsT ns).length pc) (.string (id.extract 0 last)) (.slice (some ⟨g9, 0, none⟩) data.size c9)).as (by show _ = #[_, _, _, _, _, β 9]; rw [e9])⟩) ?_
  · obtain ⟨z0, z1, z2, z3, z4, z5⟩ := six hB
    obtain ⟨f0, f1, f2, f3, f4, f5⟩ := six_fr hB
    unfold put6
    go_simp
  try simp only [Act.put]
  refine lex_nil fun w3 he => ?_
  have he9 := (he.facts 9).2
  obtain ⟨bl, ebl, hbl, hB⟩ := he.facts 11
  replace hB : Blk w3 bl 29 #[.int .i64 kind, .int .u8 (byteAt id last : Nat), .int .u8 0, .slice P (numsT ns).length pc, .string (id.extract 0 last), β 9] := hB
  rw [e9] at hB he9
  have hb3 : Below w2.heap.size w2 w3 := he.only.below0
  have hD : RByt w3 (some ⟨g9, 0, none⟩) (natL data.data.toList) := by
    refine ⟨by simp, fun hn => ⟨⟨g9, 0, none⟩, rfl, ?_, fun j u hu => str_cell he9 j u (by rw [strCells_nat]; exact hu)⟩⟩
    obtain ⟨g', c', cur, fz, e', _, _, hg, _⟩ := he9
    injection e' with e' _ _
    injection e' with e'
    injection e' with e' _ _
    subst e'
    rcases Nat.lt_or_ge g9 w3.heap.size with h | h
    · exact h
    · rw [Array.getElem?_eq_none h] at hg; cases hg
  have HK3 := Lib.hid (K1.next HK2.out hb3); have HD3 := Lib.hid hD; have HP3 := Lib.hid ((OInts.reads HOwn.out).next hb3); have HBl := Lib.hid hB
  have HPc : Hid ((numsT ns).length ≤ pc) := Lib.hid (own_cap (oints_own HOwn.out))
  have HNe : Hid (w.heap.size ≠ bl) := Lib.hid (by have := HK2.out.1.lt; omega)
  have HBlw : Hid (w.heap.size < bl) := Lib.hid (by have := HK2.out.1.lt; omega)
  have HPb : Hid (∀ ad, P = some ad → w.heap.size < ad.block ∧ ad.block < bl) := Lib.hid (fun ad e => by
    have h := World.ownsRow.lt (oints_own HOwn.out) ad.block (by rw [e]; rfl)
    have := HK1s.out
    omega)
  have HNg : Hid (g9 ≠ bl) := Lib.hid (by
    obtain ⟨g', c', cur, fz, e', hb', hf', hg', _⟩ := he9
    injection e' with e' _ _
    injection e' with e'
    injection e' with e' _ _
    subst e'
    intro e
    subst e
    have hB2 := hB
    unfold Blk at hB2
    rw [hg'] at hB2
    injection hB2 with hB2
    injection hB2 with _ _ h3
    exact hf' h3)
  have HWb : Hid (w.heap.size < w2.heap.size) := Lib.hid HK2.out.1.lt
  have HWg : Hid (g9 ≠ w.heap.size) := Lib.hid (by
    obtain ⟨g', c', cur, fz, e', hb', _⟩ := he9
    injection e' with e' _ _
    injection e' with e'
    injection e' with e' _ _
    subst e'
    have := HK2.out.1.lt
    omega)
  generalize β 11 = b11 at *
  subst ebl
  clear he hβ hB hb3 hD he9 e9
  obtain ⟨a0, a1, a2, a3, a4, a5⟩ := six HBl.out
  obtain ⟨f0, f1, f2, f3, f4, f5⟩ := six_fr HBl.out
  have hsz : (id.extract 0 last).size = last := by rw [ext_size id 0 last hle]; omega
  have HRes : Hid (∀ (W : World) (v0 v1 v2 v3 v4 v5 : Value), K1 w 29 #[.int .i64 0, .int .u8 0, .int .u8 0, .slice none 0 0, .string ⟨#[]⟩, .slice none 0 0] W → K1 w 29 #[v0, v1, v2, v3, v4, v5] (put6 W w.heap.size v0 v1 v2 v3 v4 v5)) := Lib.hid (fun W v0 v1 v2 v3 v4 v5 h => ⟨(repl6 h.1 v0 v1 v2 v3 v4 v5).here, by unfold put6; exact (((((h.2.setCell (by simp) _).setCell (by simp) _).setCell (by simp) _).setCell (by simp) _).setCell (by simp) _).setCell (by simp) _⟩)
  by_cases hm : markedB id = true
  · have hm2 := hm
    unfold markedB at hm2
    rw [Bool.and_eq_true, decide_eq_true_iff] at hm2
    obtain ⟨hs1, hmk⟩ := hm2
    have hl1 : 0 < last := by have := HLast.out; omega
    have hM : tkM id = byteAt id 0 := by unfold tkM; rw [if_pos hm]
    have hS : tkS id = id.extract 1 last := by unfold tkS; rw [if_pos hm, ← HLast.out]
    have hx2 : (id.extract 0 last).extract 1 (id.extract 0 last).size = id.extract 1 last := by
      have := ext_ext id
      rwa [← HLast.out] at this
    have hat := ext_at id last hl1 hle
    have HMS := Lib.hid (And.intro hM hS)
    rw [hmk] at HMk
    generalize id.extract 0 last = sp at *
    rw [hsz] at hx2
    have hps : 0 < sp.size := by omega
    have hi0 := byteAt_get sp 0 hps
    rw [hat] at hi0
    have hne2 : sp.toList.isEmpty = false := by
      have h : (sp.toList == (ByteArray.mk #[]).toList) = false := by rw [str_nil]; exact decide_eq_false (by omega)
      rw [show (ByteArray.mk #[]).toList = [] from by rw [ByteArray.toList_eq]] at h
      cases hq : sp.toList with
      | nil => rw [hq] at h; cases h
      | cons x xs => rfl
    have hps1 : 1 ≤ sp.size := hps
    clear hm hs1 hmk hM hS hat
    go_wp2_with fail
    refine (HMk.out _).mono ?_
    rintro e w4 ⟨rfl, rfl⟩
    go_upto_region 7 with fail
    have hb4 : Blk ((w3.setCell ⟨bl, 2, none⟩ (.int .u8 (byteAt id 0 : Nat))).setCell ⟨bl, 4, none⟩ (.string (id.extract 1 last))).drew bl 29 #[.int .i64 kind, .int .u8 (byteAt id last : Nat), .int .u8 (byteAt id 0 : Nat), .slice P (numsT ns).length pc, .string (id.extract 1 last), .slice (some ⟨g9, 0, none⟩) data.size c9] := (HBl.out.set_ 2 _).set_ 4 _
    have hk4 : K1 w 29 #[.int .i64 0, .int .u8 0, .int .u8 0, .slice none 0 0, .string ⟨#[]⟩, .slice none 0 0] ((w3.setCell ⟨bl, 2, none⟩ (.int .u8 (byteAt id 0 : Nat))).setCell ⟨bl, 4, none⟩ (.string (id.extract 1 last))).drew := ⟨Blk.far (Blk.far HK3.out.1 HNe.out _) HNe.out _, ((HK3.out.2.setCell (by have := HBlw.out; show _ ≤ bl; omega) _).setCell (by have := HBlw.out; show _ ≤ bl; omega) _).drew⟩
    have hP4 : RInts ((w3.setCell ⟨bl, 2, none⟩ (.int .u8 (byteAt id 0 : Nat))).setCell ⟨bl, 4, none⟩ (.string (id.extract 1 last))).drew P (numsT ns) := (HP3.out.store ⟨bl, 2, none⟩ (fun ad e => by have := HPb.out ad e; show ad.block ≠ bl; omega) _).store ⟨bl, 4, none⟩ (fun ad e => by have := HPb.out ad e; show ad.block ≠ bl; omega) _
    have hD4 : RByt ((w3.setCell ⟨bl, 2, none⟩ (.int .u8 (byteAt id 0 : Nat))).setCell ⟨bl, 4, none⟩ (.string (id.extract 1 last))).drew (some ⟨g9, 0, none⟩) (natL data.data.toList) := rbyt_far (rbyt_far HD3.out ⟨bl, 2, none⟩ HNg.out _) ⟨bl, 4, none⟩ HNg.out _
    go_region
    all_goals
      generalize ((w3.setCell ⟨bl, 2, none⟩ (.int .u8 (byteAt id 0 : Nat))).setCell ⟨bl, 4, none⟩ (.string (id.extract 1 last))).drew = W4 at *
      have HB4 := Lib.hid hb4; have HK4 := Lib.hid hk4; have HP4 := Lib.hid hP4; have HD4 := Lib.hid hD4
      clear hb4 hk4 hP4 hD4 a0 a1 a2 a3 a4 a5 f0 f1 f2 f3 f4 f5
      obtain ⟨a0, a1, a2, a3, a4, a5⟩ := six HB4.out
      obtain ⟨f0, f1, f2, f3, f4, f5⟩ := six_fr HK4.out.1
      obtain ⟨z0, z1, z2, z3, z4, z5⟩ := six HK4.out.1
      have HK5 := Lib.hid (HRes.out W4 (.int .i64 kind) (.int .u8 (byteAt id last : Nat)) (.int .u8 (byteAt id 0 : Nat)) (.slice P (numsT ns).length pc) (.string (id.extract 1 last)) (.slice (some ⟨g9, 0, none⟩) data.size c9) HK4.out)
      have HP5 : Hid (RInts (put6 W4 w.heap.size (.int .i64 kind) (.int .u8 (byteAt id last : Nat)) (.int .u8 (byteAt id 0 : Nat)) (.slice P (numsT ns).length pc) (.string (id.extract 1 last)) (.slice (some ⟨g9, 0, none⟩) data.size c9)) P (numsT ns)) := Lib.hid (rints_put HP4.out w.heap.size (fun ad e => by have := HPb.out ad e; have := HWb.out; omega) _ _ _ _ _ _)
      have HD5 : Hid (RByt (put6 W4 w.heap.size (.int .i64 kind) (.int .u8 (byteAt id last : Nat)) (.int .u8 (byteAt id 0 : Nat)) (.slice P (numsT ns).length pc) (.string (id.extract 1 last)) (.slice (some ⟨g9, 0, none⟩) data.size c9)) (some ⟨g9, 0, none⟩) (natL data.data.toList)) := Lib.hid (rbyt_put HD4.out w.heap.size HWg.out _ _ _ _ _ _)
      have hdl : (natL data.data.toList).length = data.size := by rw [natL_len, dlen]
      have HFin : Hid (Tkn (put6 W4 w.heap.size (.int .i64 kind) (.int .u8 (byteAt id last : Nat)) (.int .u8 (byteAt id 0 : Nat)) (.slice P (numsT ns).length pc) (.string (id.extract 1 last)) (.slice (some ⟨g9, 0, none⟩) data.size c9)) (.returned (.agg #[.int .i64 kind, .int .u8 (byteAt id last : Nat), .int .u8 (byteAt id 0 : Nat), .slice P (numsT ns).length pc, .string (id.extract 1 last), .slice (some ⟨g9, 0, none⟩) data.size c9])) kind (byteAt id last) (tkM id) (numsT ns) (tkS id) (natL data.data.toList)) := Lib.hid ⟨P, pc, some ⟨g9, 0, none⟩, c9, by rw [HMS.out.1, HMS.out.2]; unfold tkC; rw [hdl], HP5.out, HPc.out, HD5.out⟩
      clear hdl
      obtain ⟨e0, e1, e2, e3, e4, e5⟩ := six HK5.out.1
      unfold put6 at HFin HK5 e0 e1 e2 e3 e4 e5
      go_upto_region 8 with fail
      repeat go_step
      exact bodyPost_ret (v := .agg #[.int .i64 kind, .int .u8 (byteAt id last : Nat), .int .u8 (byteAt id 0 : Nat), .slice P (numsT ns).length pc, .string (id.extract 1 last), .slice (some ⟨g9, 0, none⟩) data.size c9]) (by simp [results, Tryd.results48, go_sem, e0, e1, e2, e3, e4, e5]) rfl ⟨HFin.out, HK5.out.2⟩
  · have hM : tkM id = 0 := by unfold tkM; rw [if_neg hm]
    have hS : tkS id = id.extract 0 last := by unfold tkS; rw [if_neg hm, ← HLast.out]
    by_cases hl0 : last = 0
    · have hem : (id.extract 0 last).toList.isEmpty = true := by
        have h : ((id.extract 0 last).toList == (ByteArray.mk #[]).toList) = true := by rw [str_nil]; exact decide_eq_true (by rw [hsz]; exact hl0)
        rw [show (ByteArray.mk #[]).toList = [] from by rw [ByteArray.toList_eq]] at h
        cases hq : (id.extract 0 last).toList with
        | nil => rfl
        | cons x xs => rw [hq] at h; cases h
      have HK5 := Lib.hid (HRes.out w3 (.int .i64 kind) (.int .u8 (byteAt id last : Nat)) (.int .u8 0) (.slice P (numsT ns).length pc) (.string (id.extract 0 last)) (.slice (some ⟨g9, 0, none⟩) data.size c9) HK3.out)
      have HP5 : Hid (RInts (put6 w3 w.heap.size (.int .i64 kind) (.int .u8 (byteAt id last : Nat)) (.int .u8 0) (.slice P (numsT ns).length pc) (.string (id.extract 0 last)) (.slice (some ⟨g9, 0, none⟩) data.size c9)) P (numsT ns)) := Lib.hid (rints_put HP3.out w.heap.size (fun ad e => by have := HPb.out ad e; have := HWb.out; omega) _ _ _ _ _ _)
      have HD5 : Hid (RByt (put6 w3 w.heap.size (.int .i64 kind) (.int .u8 (byteAt id last : Nat)) (.int .u8 0) (.slice P (numsT ns).length pc) (.string (id.extract 0 last)) (.slice (some ⟨g9, 0, none⟩) data.size c9)) (some ⟨g9, 0, none⟩) (natL data.data.toList)) := Lib.hid (rbyt_put HD3.out w.heap.size HWg.out _ _ _ _ _ _)
      have hdl : (natL data.data.toList).length = data.size := by rw [natL_len, dlen]
      have HFin : Hid (Tkn (put6 w3 w.heap.size (.int .i64 kind) (.int .u8 (byteAt id last : Nat)) (.int .u8 0) (.slice P (numsT ns).length pc) (.string (id.extract 0 last)) (.slice (some ⟨g9, 0, none⟩) data.size c9)) (.returned (.agg #[.int .i64 kind, .int .u8 (byteAt id last : Nat), .int .u8 0, .slice P (numsT ns).length pc, .string (id.extract 0 last), .slice (some ⟨g9, 0, none⟩) data.size c9])) kind (byteAt id last) (tkM id) (numsT ns) (tkS id) (natL data.data.toList)) := Lib.hid ⟨P, pc, some ⟨g9, 0, none⟩, c9, by rw [hM, hS]; unfold tkC; rw [hdl]; rfl, HP5.out, HPc.out, HD5.out⟩
      clear hdl f0 f1 f2 f3 f4 f5
      obtain ⟨f0, f1, f2, f3, f4, f5⟩ := six_fr HK3.out.1
      obtain ⟨z0, z1, z2, z3, z4, z5⟩ := six HK3.out.1
      obtain ⟨e0, e1, e2, e3, e4, e5⟩ := six HK5.out.1
      unfold put6 at HFin HK5 e0 e1 e2 e3 e4 e5
      clear hm hM hS hl0
      generalize id.extract 0 last = sp at *
      go_upto_region 8 with fail
      repeat go_step
      exact bodyPost_ret (v := .agg #[.int .i64 kind, .int .u8 (byteAt id last : Nat), .int .u8 0, .slice P (numsT ns).length pc, .string sp, .slice (some ⟨g9, 0, none⟩) data.size c9]) (by simp [results, Tryd.results48, go_sem, e0, e1, e2, e3, e4, e5]) rfl ⟨HFin.out, HK5.out.2⟩
    · have hne2 : (id.extract 0 last).toList.isEmpty = false := by
        have h : ((id.extract 0 last).toList == (ByteArray.mk #[]).toList) = false := by rw [str_nil]; exact decide_eq_false (by rw [hsz]; exact hl0)
        rw [show (ByteArray.mk #[]).toList = [] from by rw [ByteArray.toList_eq]] at h
        cases hq : (id.extract 0 last).toList with
        | nil => rw [hq] at h; cases h
        | cons x xs => rfl
      have hmk : markN (byteAt id 0) = false := by
        cases hq : markN (byteAt id 0)
        · rfl
        · exfalso
          apply hm
          unfold markedB
          rw [hq, decide_eq_true (by have := HLast.out; omega)]
          rfl
      rw [hmk] at HMk
      have hat := ext_at id last (by omega) hle
      have hps : 0 < (id.extract 0 last).size := by omega
      have hi0 := byteAt_get (id.extract 0 last) 0 hps
      rw [hat] at hi0
      have HK5 := Lib.hid (HRes.out w3 (.int .i64 kind) (.int .u8 (byteAt id last : Nat)) (.int .u8 0) (.slice P (numsT ns).length pc) (.string (id.extract 0 last)) (.slice (some ⟨g9, 0, none⟩) data.size c9) HK3.out)
      have HP5 : Hid (RInts (put6 w3 w.heap.size (.int .i64 kind) (.int .u8 (byteAt id last : Nat)) (.int .u8 0) (.slice P (numsT ns).length pc) (.string (id.extract 0 last)) (.slice (some ⟨g9, 0, none⟩) data.size c9)) P (numsT ns)) := Lib.hid (rints_put HP3.out w.heap.size (fun ad e => by have := HPb.out ad e; have := HWb.out; omega) _ _ _ _ _ _)
      have HD5 : Hid (RByt (put6 w3 w.heap.size (.int .i64 kind) (.int .u8 (byteAt id last : Nat)) (.int .u8 0) (.slice P (numsT ns).length pc) (.string (id.extract 0 last)) (.slice (some ⟨g9, 0, none⟩) data.size c9)) (some ⟨g9, 0, none⟩) (natL data.data.toList)) := Lib.hid (rbyt_put HD3.out w.heap.size HWg.out _ _ _ _ _ _)
      have hdl : (natL data.data.toList).length = data.size := by rw [natL_len, dlen]
      have HFin : Hid (Tkn (put6 w3 w.heap.size (.int .i64 kind) (.int .u8 (byteAt id last : Nat)) (.int .u8 0) (.slice P (numsT ns).length pc) (.string (id.extract 0 last)) (.slice (some ⟨g9, 0, none⟩) data.size c9)) (.returned (.agg #[.int .i64 kind, .int .u8 (byteAt id last : Nat), .int .u8 0, .slice P (numsT ns).length pc, .string (id.extract 0 last), .slice (some ⟨g9, 0, none⟩) data.size c9])) kind (byteAt id last) (tkM id) (numsT ns) (tkS id) (natL data.data.toList)) := Lib.hid ⟨P, pc, some ⟨g9, 0, none⟩, c9, by rw [hM, hS]; unfold tkC; rw [hdl]; rfl, HP5.out, HPc.out, HD5.out⟩
      clear hdl f0 f1 f2 f3 f4 f5
      obtain ⟨f0, f1, f2, f3, f4, f5⟩ := six_fr HK3.out.1
      obtain ⟨z0, z1, z2, z3, z4, z5⟩ := six HK3.out.1
      obtain ⟨e0, e1, e2, e3, e4, e5⟩ := six HK5.out.1
      unfold put6 at HFin HK5 e0 e1 e2 e3 e4 e5
      clear hm hM hS hl0 hmk hat
      generalize id.extract 0 last = sp at *
      go_wp2_with fail
      refine (HMk.out _).mono ?_
      rintro e w4 ⟨rfl, rfl⟩
      go_upto_region 8 with fail
      repeat go_step
      exact bodyPost_ret (v := .agg #[.int .i64 kind, .int .u8 (byteAt id last : Nat), .int .u8 0, .slice P (numsT ns).length pc, .string sp, .slice (some ⟨g9, 0, none⟩) data.size c9]) (by simp [results, Tryd.results48, go_sem, e0, e1, e2, e3, e4, e5]) rfl ⟨HFin.out, HK5.out.2⟩
end Go.Proofs.YtpiliicphoacfaaDoor

namespace Go.Proofs.YtpiliicphoacfaaDoor

open Go Go.RowKit

theorem obyt_mono {w : World} {b b' : Nat} {v : Value} {l : List Nat} (h : OByt w b v l) (hb : b' ≤ b) : OByt w b' v l := by
  refine ⟨h.1, ?_⟩
  rcases h.2 with h | ⟨g, cap, cur, hv, hg, r⟩
  · exact .inl h
  · exact .inr ⟨g, cap, cur, hv, Nat.le_trans hb hg, r⟩
/-- A token's bytes; nothing, if it can't be. -/
def wrtL (k : Int) (c m : Nat) (ps : List Int) (s : ByteArray) (dt : List Nat) (eight : Bool) : List Nat := if checkP k c m ps s dt = 0 then bytesL k c m ps s dt eight else []
/-- Bytes of its own that a call answers. -/
def Gives (w w' : World) (e : Ending) (l : List Nat) : Prop := ∃ v, e = .returned v ∧ OByt w' w.heap.size v l
set_option maxRecDepth 100000 in
set_option maxHeartbeats 4000000 in
theorem wrt_any (k : Int) (c m : Nat) (P : Option Addr) (ps : List Int) (pc : Nat) (s : ByteArray) (D : Option Addr) (dt : List Nat) (dc : Nat) (hc : c < 256) (hsz : s.size ≤ maxLen) (hp : ps.length ≤ maxLen) (hpc : ps.length ≤ pc) (hd : dt.length ≤ maxLen) (eight : Bool) (w : World) (ht : Ten w) (hr : RInts w P ps) (hb : RByt w D dt) :
    Calls Tryd.prog 47 #[.agg (tkC k (c : Int) (m : Int) P ps pc s D dt dc), .bool eight] w fun e w' => Gives w w' e (wrtL k c m ps s dt eight) ∧ Below w.heap.size w w' := by
  have HB := Lib.hid (fun W t h1 h2 => bytes_any k c m P ps pc s D dt dc hc hsz hp hpc hd eight W t h1 h2)
  have HK := Lib.hid (K1.start w 29 (tkC k (c : Int) (m : Int) P ps pc s D dt dc))
  have HT := Lib.hid (ht.next HK.out.2); have HR := Lib.hid (hr.next HK.out.2); have HD := Lib.hid (hb.next HK.out.2)
  unfold wrtL
  unfold BytesR at HB
  clear ht hr hb hc hsz hp hpc hd
  generalize checkP k c m ps s dt = q at *
  generalize bytesL k c m ps s dt eight = bl at *
  obtain ⟨X, hX⟩ : ∃ X, X = if q = 0 then bl else [] := ⟨_, rfl⟩
  rw [← hX]
  have HX := Lib.hid hX
  clear hX
  unfold tkC at *
  obtain ⟨a0, a1, a2, a3, a4, a5⟩ := six HK.out.1
  go_enter Tryd.func47, Tryd.ntmps47
  go_wp2_with fail
  refine (HB.out _ HT.out HR.out HD.out).mono ?_
  rintro e w1 ⟨hR, hb1⟩
  have HB1 := Lib.hid (HK.out.2.trans (hb1.mono HK.out.2.size)); have HS := Lib.hid HK.out.2.size
  clear hb1 a0 a1 a2 a3 a4 a5 HK
  rcases hR with ⟨hq, rfl⟩ | ⟨hq, v, rfl, hv⟩
  · have HE : Hid (X = []) := Lib.hid (by rw [HX.out, if_neg hq])
    clear hq
    go_wp2_with fail
    go_ret
    exact ⟨⟨_, rfl, by rw [HE.out]; exact obyt_nil _ _⟩, HB1.out⟩
  · have HE : Hid (X = bl) := Lib.hid (by rw [HX.out, if_pos hq])
    have HV := Lib.hid (obyt_mono hv (Nat.le_trans HS.out (Nat.le_succ _)))
    clear hq hv
    go_wp2_with fail
    go_ret
    exact ⟨⟨v, rfl, by rw [HE.out]; exact HV.out⟩, HB1.out⟩
theorem ba_empty {s : ByteArray} (h : s.size = 0) : s = ⟨#[]⟩ := by
  have := ByteArray.size_eq_zero_iff.1 h
  exact this
theorem wrt_none (dt : List Nat) (eight : Bool) : wrtL 0 0 0 [] ⟨#[]⟩ dt eight = [] := by
  have h : checkP 0 0 0 [] ⟨#[]⟩ dt = 1 := if_pos (Or.inl (by decide))
  unfold wrtL
  rw [h]
  rfl
/-- A token of an id. -/
theorem sequence_any (kind : Int) (id data : ByteArray) (A : Option Addr) (c : Nat) (ns : List Int) (hl : ns.length ≤ maxLen) (hc : ns.length ≤ c) (hi2 : id.size ≤ maxLen) (w : World) (ht : Ten w) (hr : RInts w A ns) :
    Calls Tryd.prog 48 #[.int .i64 kind, .string id, .string data, .slice A ns.length c] w fun e w' => (∃ (k : Int) (cc m : Nat) (ps : List Int) (s : ByteArray) (dt : List Nat), Tkn w' e k cc m ps s dt ∧ cc < 256 ∧ s.size ≤ id.size ∧ ps.length ≤ 30 ∧ dt.length ≤ data.size ∧ ∀ eight, wrtL k cc m ps s dt eight = repL kind id data ns eight) ∧ Below w.heap.size w w' := by
  by_cases h : id.size = 0
  · obtain rfl := ba_empty h
    refine (seq_none kind data _ w).mono fun e w' ⟨h1, h2⟩ => ⟨⟨0, 0, 0, [], ⟨#[]⟩, [], h1, by omega, by simp, by simp, by simp, fun eight => ?_⟩, h2⟩
    rw [wrt_none]
    rfl
  · refine (seq_some kind id data A c ns hl hc (by omega) hi2 w ht hr).mono fun e w' ⟨h1, h2⟩ => ⟨⟨kind, _, _, _, _, _, h1, byteAt_lt _ _, ?_, nums_len ns, by rw [natL_len, dlen]; exact Nat.le_refl _, fun eight => ?_⟩, h2⟩
    · unfold tkS; rw [ByteArray.size_extract]; omega
    · unfold repL
      rw [if_neg h]
      rfl
set_option maxRecDepth 100000 in
set_option maxHeartbeats 4000000 in
theorem csi_any (eight : Bool) (id : ByteArray) (A : Option Addr) (c : Nat) (ns : List Int) (hl : ns.length ≤ maxLen) (hc : ns.length ≤ c) (hi2 : id.size ≤ maxLen) (w : World) (ht : Ten w) (hr : RInts w A ns) :
    Calls Tryd.prog 29 #[.bool eight, .string id, .slice A ns.length c] w fun e w' => Gives w w' e (repL 4 id ⟨#[]⟩ ns eight) ∧ Below w.heap.size w w' := by
  have HS := Lib.hid (fun W t h => sequence_any 4 id ⟨#[]⟩ A c ns hl hc hi2 W t h)
  have HT := Lib.hid ht; have HR := Lib.hid hr
  have HW := Lib.hid @wrt_any
  have HI := Lib.hid hi2
  clear ht hr hl hc hi2
  generalize repL 4 id ⟨#[]⟩ ns = rl at *
  go_enter Tryd.func29, Tryd.ntmps29
  go_wp2_with fail
  refine (HS.out _ HT.out HR.out).mono ?_
  rintro e w1 ⟨⟨k, cc, m, ps, s, dt, ⟨P, pc, D, dc, rfl, hp, hpc, hd⟩, h1, h2, h3, h4, h5⟩, hb1⟩
  have HB1 := Lib.hid hb1; have HW1 := Lib.hid (HW.out k cc m P ps pc s D dt dc h1 (by have := HI.out; omega) (by unfold maxLen; omega) hpc (by have : (ByteArray.mk #[]).size = 0 := rfl; unfold maxLen; omega) eight w1 (HT.out.next hb1) hp hd)
  rw [h5] at HW1
  clear hb1 hp hd hpc h1 h2 h3 h4 h5
  unfold tkC at *
  go_wp2_with fail
  refine HW1.out.mono ?_
  rintro e w2 ⟨⟨v, rfl, hv⟩, hb2⟩
  have HB2 := Lib.hid (HB1.out.trans (hb2.mono HB1.out.size)); have HV := Lib.hid (obyt_mono hv HB1.out.size)
  clear hb2 hv
  go_wp2_with fail
  go_ret
  exact ⟨⟨v, rfl, HV.out⟩, HB2.out⟩
set_option maxRecDepth 100000 in
set_option maxHeartbeats 4000000 in
theorem dcs_any (eight : Bool) (id data : ByteArray) (A : Option Addr) (c : Nat) (ns : List Int) (hl : ns.length ≤ maxLen) (hc : ns.length ≤ c) (hi2 : id.size ≤ maxLen) (hd2 : data.size ≤ maxLen) (w : World) (ht : Ten w) (hr : RInts w A ns) :
    Calls Tryd.prog 49 #[.bool eight, .string id, .string data, .slice A ns.length c] w fun e w' => Gives w w' e (repL 5 id data ns eight) ∧ Below w.heap.size w w' := by
  have HS := Lib.hid (fun W t h => sequence_any 5 id data A c ns hl hc hi2 W t h)
  have HT := Lib.hid ht; have HR := Lib.hid hr
  have HW := Lib.hid @wrt_any
  have HI := Lib.hid (And.intro hi2 hd2)
  clear ht hr hl hc hi2 hd2
  generalize repL 5 id data ns = rl at *
  go_enter Tryd.func49, Tryd.ntmps49
  go_wp2_with fail
  refine (HS.out _ HT.out HR.out).mono ?_
  rintro e w1 ⟨⟨k, cc, m, ps, s, dt, ⟨P, pc, D, dc, rfl, hp, hpc, hd⟩, h1, h2, h3, h4, h5⟩, hb1⟩
  have HB1 := Lib.hid hb1; have HW1 := Lib.hid (HW.out k cc m P ps pc s D dt dc h1 (by have := HI.out; omega) (by unfold maxLen; omega) hpc (by have := HI.out; omega) eight w1 (HT.out.next hb1) hp hd)
  rw [h5] at HW1
  clear hb1 hp hd hpc h1 h2 h3 h4 h5
  unfold tkC at *
  go_wp2_with fail
  refine HW1.out.mono ?_
  rintro e w2 ⟨⟨v, rfl, hv⟩, hb2⟩
  have HB2 := Lib.hid (HB1.out.trans (hb2.mono HB1.out.size)); have HV := Lib.hid (obyt_mono hv HB1.out.size)
  clear hb2 hv
  go_wp2_with fail
  go_ret
  exact ⟨⟨v, rfl, HV.out⟩, HB2.out⟩
end Go.Proofs.YtpiliicphoacfaaDoor

namespace Go.Proofs.YtpiliicphoacfaaDoor

open Go Go.RowKit

theorem owns_far {w : World} {base size n : Nat} {e : TypeId} {v : Value} {xs : List Value} (h : w.ownsRow base e size v n xs) (g : Nat) (hne : v.ownBlock ≠ some g) (o : Nat) (u : Value) : (w.setCell ⟨g, o, none⟩ u).ownsRow base e size v n xs :=
  World.ownsRow.kept (row := some g) h ⟨rfl, rfl, rfl, by simp [World.setCell], fun k _ hk => Below.heap_setCell w _ u k (by simpa using hk)⟩ (.inr hne)
/-- The reference's token as it comes to be. -/
structure KT (w : World) (tb : Nat) (kind : Int) (c m : Nat) (v : Value) (s : ByteArray) (D : Option Addr) (dl dc : Nat) (l : List Int) (dt : List Nat) (W : World) : Prop where
  box : Blk W tb 31 #[.int .i64 kind, .int .u8 (c : Int), .int .u8 (m : Int), v, .string s, .slice D dl dc]
  own : OInts W (tb + 1) v l
  data : RByt W D dt
  below : Below w.heap.size w W
  far : ∀ ad, D = some ad → ad.block < tb
  low : w.heap.size ≤ tb
theorem KT.next {w W W' : World} {tb : Nat} {kind : Int} {c m : Nat} {v : Value} {s : ByteArray} {D : Option Addr} {dl dc : Nat} {l : List Int} {dt : List Nat} (h : KT w tb kind c m v s D dl dc l dt W) (hb : Below W.heap.size W W') : KT w tb kind c m v s D dl dc l dt W' :=
  ⟨h.box.next hb, World.ownsRow.kept (row := none) h.own ⟨hb.os, hb.tape, hb.output, hb.size, fun k hk _ => hb.block k hk⟩ (by cases v.ownBlock <;> simp), h.data.next hb, h.below.trans (hb.mono h.below.size), h.far, h.low⟩
theorem rbyt_low {w w' : World} {A : Option Addr} {l : List Nat} {B : Nat} (h : RByt w A l) (hb : Below B w w') (hA : ∀ ad, A = some ad → ad.block < B) : RByt w' A l := by
  refine ⟨h.1, fun hn => ?_⟩
  obtain ⟨ad, e, hlt, hc⟩ := h.2 hn
  refine ⟨ad, e, Nat.lt_of_lt_of_le hlt hb.size, fun j v hv => ?_⟩
  rw [hb.cell (by rw [block_of_add]; exact hA ad e)]
  exact hc j v hv
theorem rbyt_store {w : World} {A : Option Addr} {l : List Nat} (h : RByt w A l) (p : Addr) (hA : ∀ ad, A = some ad → ad.block ≠ p.block) (u : Value) : RByt (w.setCell p u) A l := by
  refine ⟨h.1, fun hn => ?_⟩
  obtain ⟨ad, e, hb, hc⟩ := h.2 hn
  refine ⟨ad, e, by simpa [World.setCell] using hb, fun j v hv => ?_⟩
  rw [World.cell?_setCell_other w p _ u (fun e' => hA ad e (by rw [e', block_of_add]))]
  exact hc j v hv
theorem KT.blockne {w W : World} {tb : Nat} {kind : Int} {c m : Nat} {v : Value} {s : ByteArray} {D : Option Addr} {dl dc : Nat} {l : List Int} {dt : List Nat} (h : KT w tb kind c m v s D dl dc l dt W) : v.ownBlock ≠ some tb := fun e => by
  have := (World.ownsRow.lt (oints_own h.own) tb e).1
  omega
/-- A number more. -/
theorem KT.push {w W W' : World} {tb : Nat} {kind : Int} {c m : Nat} {v v' : Value} {s : ByteArray} {D : Option Addr} {dl dc : Nat} {l : List Int} {dt : List Nat} {x : Int} (h : KT w tb kind c m v s D dl dc l dt W) (ho : W'.ownsRow (tb + 1) 3 1 v' (l.length + 1) (l.map (Value.int .i64) ++ [.int .i64 x])) (hb : Below (tb + 1) W W') :
    KT w tb kind c m v' s D dl dc (l ++ [x]) dt (W'.setCell ⟨tb, 3, none⟩ v') := by
  have ho' : OInts W' (tb + 1) v' (l ++ [x]) := by unfold OInts; rw [List.length_append, List.map_append]; exact ho
  refine ⟨(h.box.below hb (by omega)).set_ 3 v', owns_far ho' tb (fun e => by have := (World.ownsRow.lt ho tb e).1; omega) 3 v', rbyt_store (rbyt_low h.data hb (fun ad e => by have := h.far ad e; omega)) ⟨tb, 3, none⟩ (fun ad e => by have := h.far ad e; show ad.block ≠ tb; omega) _, (h.below.trans (hb.mono (by have := h.low; omega))).setCell h.low _, h.far, h.low⟩
/-- A part is another one. -/
theorem KT.put {w W : World} {tb : Nat} {kind : Int} {c m : Nat} {v : Value} {s : ByteArray} {D : Option Addr} {dl dc : Nat} {l : List Int} {dt : List Nat} (h : KT w tb kind c m v s D dl dc l dt W) (i : Nat) (u : Value) {c' m' : Nat} {s' : ByteArray}
    (e : (#[.int .i64 kind, .int .u8 (c : Int), .int .u8 (m : Int), v, .string s, .slice D dl dc] : Array Value).setIfInBounds i u = #[.int .i64 kind, .int .u8 (c' : Int), .int .u8 (m' : Int), v, .string s', .slice D dl dc]) : KT w tb kind c' m' v s' D dl dc l dt (W.setCell ⟨tb, i, none⟩ u) :=
  ⟨e ▸ h.box.set_ i u, owns_far h.own tb h.blockne i u, rbyt_store h.data ⟨tb, i, none⟩ (fun ad e => by have := h.far ad e; show ad.block ≠ tb; omega) _, h.below.setCell h.low _, h.far, h.low⟩
theorem form3 {w : World} {base : Nat} {v : Value} {ns : List Int} (h : OInts w base v ns) : ∃ A n c, v = .slice A n c := by
  obtain ⟨A, c, e⟩ := h.form
  exact ⟨A, _, c, e⟩
theorem clip_ways (n : Int) : (decide (n < 0) = true ∧ clip65 n = 0) ∨ (decide (n < 0) = false ∧ decide (65535 < n) = true ∧ clip65 n = 65535) ∨ (decide (n < 0) = false ∧ decide (65535 < n) = false ∧ clip65 n = n) := by
  unfold clip65 clipP
  simp only [decide_eq_true_iff, decide_eq_false_iff_not]
  omega

end Go.Proofs.YtpiliicphoacfaaDoor

namespace Go.Proofs.YtpiliicphoacfaaDoor

open Go Go.RowKit

theorem gives_back {w w1 w2 : World} {e : Ending} {l : List Nat} (h : Gives w1 w2 e l ∧ Below w1.heap.size w1 w2) (hb : Below w.heap.size w w1) : ∃ v, e = .returned v ∧ OByt w2 w.heap.size v l ∧ Below w.heap.size w w2 := by
  obtain ⟨⟨v, rfl, hv⟩, h2⟩ := h
  exact ⟨v, rfl, obyt_mono hv hb.size, hb.trans (h2.mono hb.size)⟩
def toldP (n : Int) : Int := min n 65535 + 1
def moreP (n : Int) : Int := if 65535 ≤ n then 65535 else n + 1
theorem told_more (n : Int) : clip65 (toldP n) = clip65 (moreP n) := by
  unfold clip65 clipP toldP moreP
  split <;> omega
theorem repTold_any (n : Int) (h1 : -9223372036854775808 ≤ n) (h2 : n ≤ 9223372036854775807) (w : World) :
    Calls Tryd.prog 31 #[.int .i64 n] w fun e w' => e = .returned (.int .i64 (toldP n)) ∧ w = w' := by
  have hw : IntKind.i64.wrap (min n 65535 + 1) = toldP n := IntWalk.i64_in _ (by omega)
  generalize toldP n = q at *
  clear h1 h2
  go_enter Tryd.func31, Tryd.ntmps31
  go_wp2_with fail
  go_ret
  exact ⟨rfl, rfl⟩





end Go.Proofs.YtpiliicphoacfaaDoor

namespace Go.Proofs.YtpiliicphoacfaaDoor

open Go Go.RowKit

/-- Some elements more, out of a new block. -/
theorem wpList_pushM {P : Program} {ops : Array Oper} {rest : List Oper} {o : Oper} {a : Act} {Q : Exit → Act → World → Prop} {W : World} (hgd : o.guard = none) (s x : Operand) (t : TypeId)
    (ho : o.op = .call { callee := .builtin .append, args := #[s, x], argTypes := #[t, t] })
    (base : Nat) (e : TypeId) (z : Value) (size bytes : Nat) (ht : P.underlying t = some (.slice e)) (hinfo : (P.info? e).map (fun i => (i.zero, i.size, i.bytes)) = some (some z, size, bytes)) (hzs : z.cells.size = size) (hsz : 0 < size)
    (v : Value) (n : Nat) (xs : List Value) (hs : a.eval s = v) (hown : W.ownsRow base e size v n xs)
    (us : List Value) (m : Nat) (hul : us.length = m * size) (hu : ∀ u ∈ us, u.oneCell' = true) (cs : Array Value) (hcs : cs = us.toArray) (T : TypeId) (g c : Nat) (hg : g = W.heap.size) (hx : a.eval x = .slice (some ⟨g, 0, none⟩) m c)
    (h63 : n + m ≤ maxLen) (hbytes : (n + m) * bytes ≤ 140737488355328) (hbase : base ≤ W.heap.size)
    (h : ∀ v' w', w'.ownsRow base e size v' (n + m) (xs ++ us) → W.grownBy w' v.ownBlock → Below base W w' → wpList P ops Q rest (a.put o.dst v') w') : wpList P ops Q (o :: rest) a (W.alloc (.cells cs T)) := by
  obtain ⟨i, hi, hz, hsize, hby⟩ := info_parts hinfo
  subst hcs
  have hB : Below W.heap.size W (W.alloc (.cells us.toArray T)) := (Below.refl _ _).alloc (Nat.le_refl _) _
  refine wpList_append_own _ hgd s x t ho base e i z size bytes ht hi hz hsize hby hzs hsz v n xs hs (hown.alloc _) ⟨g, 0, none⟩ m c us hx hul (fun j u' hj => ?_) hu h63 hbytes (Nat.le_trans hbase hB.size) (fun v' w' h2 h3 _ => h v' w' h2 (grown_own hB h3) (below_own hown hbase hB h3))
  subst hg
  have hadd : (⟨W.heap.size, 0, none⟩ : Addr).add j = ⟨W.heap.size, j, none⟩ := by unfold Addr.add; split <;> simp_all
  rw [hadd, (Blk.new W T _).cell j]
  simpa using hj

theorem repL_nums {kind : Int} {id data : ByteArray} {a b : List Int} (h : numsT a = numsT b) : repL kind id data a = repL kind id data b := by funext e; unfold repL; rw [h]
theorem size_le {s : ByteArray} {n : Nat} (h : s.size = n) (hn : n ≤ 1000) : s.size ≤ maxLen := by unfold maxLen; omega


set_option maxRecDepth 100000 in
theorem repPlace_any (eight : Bool) (a b p : Int) (ha1 : -9223372036854775808 ≤ a) (ha2 : a ≤ 9223372036854775807) (hb1 : -9223372036854775808 ≤ b) (hb2 : b ≤ 9223372036854775807) (hp1 : -9223372036854775808 ≤ p) (hp2 : p ≤ 9223372036854775807) (w : World) (ht : Ten w) :
    Calls Tryd.prog 15 #[.bool eight, .int .i64 a, .int .i64 b, .int .i64 p] w fun e w' => Gives w w' e (if p < 0 then repL 4 ⟨#[82]⟩ ⟨#[]⟩ [toldP a, toldP b] eight else repL 4 ⟨#[63, 82]⟩ ⟨#[]⟩ [toldP a, toldP b, toldP p] eight) ∧ Below w.heap.size w w' := by
  have Ha := Lib.hid (fun W => repTold_any a ha1 ha2 W)
  have Hb := Lib.hid (fun W => repTold_any b hb1 hb2 W)
  have Hp := Lib.hid (fun W => repTold_any p hp1 hp2 W)
  by_cases hp : p < 0
  · rw [if_pos hp]
    have d : decide (p < 0) = true := by simpa using hp
    clear hp ha1 ha2 hb1 hb2 hp1 hp2
    generalize toldP a = x at *
    generalize toldP b = y at *
    generalize toldP p = z at *
    have hb : Below w.heap.size w (w.alloc (.cells #[.int .i64 x, .int .i64 y] 3)) := (Below.refl _ _).alloc (Nat.le_refl _) _
    have HX := Lib.hid (csi_any eight ⟨#[82]⟩ (some ⟨w.heap.size, 0, none⟩) 2 [x, y] (by simp [maxLen]) (by simp) (size_le (n := 1) rfl (by decide)) _ (ht.next hb) (rints_new w 3 [x, y] #[.int .i64 x, .int .i64 y] rfl w.heap.size rfl))
    have HB := Lib.hid hb
    clear ht hb
    generalize repL 4 ⟨#[82]⟩ ⟨#[]⟩ [x, y] eight = l at *
    go_enter Tryd.func15, Tryd.ntmps15
    go_wp2_with fail
    refine (Ha.out _).mono ?_
    rintro e w' ⟨rfl, rfl⟩
    go_wp2_with fail
    refine (Hb.out _).mono ?_
    rintro e w' ⟨rfl, rfl⟩
    go_wp2_with fail
    refine HX.out.mono ?_
    rintro e w2 h
    obtain ⟨v, rfl, hv⟩ := gives_back h HB.out
    have HV := Lib.hid hv
    clear h hv
    go_wp2_with fail
    go_ret
    exact ⟨⟨v, rfl, HV.out.1⟩, HV.out.2⟩
  · rw [if_neg hp]
    have d : decide (p < 0) = false := by simpa using hp
    clear hp ha1 ha2 hb1 hb2 hp1 hp2
    generalize toldP a = x at *
    generalize toldP b = y at *
    generalize toldP p = z at *
    have hb : Below w.heap.size w (w.alloc (.cells #[.int .i64 x, .int .i64 y, .int .i64 z] 3)) := (Below.refl _ _).alloc (Nat.le_refl _) _
    have HX := Lib.hid (csi_any eight ⟨#[63, 82]⟩ (some ⟨w.heap.size, 0, none⟩) 3 [x, y, z] (by simp [maxLen]) (by simp) (size_le (n := 2) rfl (by decide)) _ (ht.next hb) (rints_new w 3 [x, y, z] #[.int .i64 x, .int .i64 y, .int .i64 z] rfl w.heap.size rfl))
    have HB := Lib.hid hb
    clear ht hb
    generalize repL 4 ⟨#[63, 82]⟩ ⟨#[]⟩ [x, y, z] eight = l at *
    go_enter Tryd.func15, Tryd.ntmps15
    go_wp2_with fail
    refine (Ha.out _).mono ?_
    rintro e w' ⟨rfl, rfl⟩
    go_wp2_with fail
    refine (Hb.out _).mono ?_
    rintro e w' ⟨rfl, rfl⟩
    go_wp2_with fail
    refine (Hp.out _).mono ?_
    rintro e w' ⟨rfl, rfl⟩
    go_wp2_with fail
    refine HX.out.mono ?_
    rintro e w2 h
    obtain ⟨v, rfl, hv⟩ := gives_back h HB.out
    have HV := Lib.hid hv
    clear h hv
    go_wp2_with fail
    go_ret
    exact ⟨⟨v, rfl, HV.out.1⟩, HV.out.2⟩

def firstL (k : Int) : List Int := if k = 1 then [1, 2] else [60 + k, 1, 2, 7, 8, 9] ++ (if 3 ≤ k then [18, 21] else []) ++ (if 4 ≤ k then [28, 29] else []) ++ (if k = 5 then [42, 44] else [])
theorem clip_first (n : Int) : (n ≤ 1 ∧ clipP n 1 5 = 1) ∨ (n = 2 ∧ clipP n 1 5 = 2) ∨ (n = 3 ∧ clipP n 1 5 = 3) ∨ (n = 4 ∧ clipP n 1 5 = 4) ∨ (n = 5 ∧ clipP n 1 5 = 5) ∨ (5 < n ∧ clipP n 1 5 = 5) := by
  unfold clipP
  omega
theorem oints_cap {w : World} {base c : Nat} {A : Option Addr} {ns : List Int} (h : OInts w base (.slice A ns.length c) ns) : ns.length ≤ c := own_cap h


end Go.Proofs.YtpiliicphoacfaaDoor

namespace Go.Proofs.YtpiliicphoacfaaDoor

open Go Go.RowKit

/-- A digit; the digits of some bytes. -/
def hdN (n : Nat) : Nat := if n < 10 then 48 + n else 55 + n
def hexL (l : List Nat) : List Nat := l.flatMap fun x => [hdN (x / 16), hdN (x % 16)]
theorem hex_snoc (l : List Nat) (k : Nat) (hk : k < l.length) : hexL (l.take (k + 1)) = hexL (l.take k) ++ [hdN (l[k] / 16), hdN (l[k] % 16)] := by
  unfold hexL
  rw [take_snoc l k hk, List.flatMap_append]
  simp
theorem hex_len (l : List Nat) : (hexL l).length = 2 * l.length := by
  unfold hexL
  induction l with
  | nil => rfl
  | cons a l ih => rw [List.flatMap_cons, List.length_append, ih]; simp; omega
theorem and15 : ∀ x : Nat, x < 256 → bits BinOp.and IntKind.u8 (x : Int) 15 = ((x % 16 : Nat) : Int) := by decide +kernel
def dgB : ByteArray := ⟨#[48, 49, 50, 51, 52, 53, 54, 55, 56, 57, 65, 66, 67, 68, 69, 70]⟩
theorem dig_all : ∀ n : Nat, (h : n < 16) → (dgB[n]'h).toNat = hdN n := by decide +kernel
theorem dig_at (q : Int) (h0 : 0 ≤ q) (h1 : q < 16) : ((⟨#[48, 49, 50, 51, 52, 53, 54, 55, 56, 57, 65, 66, 67, 68, 69, 70]⟩ : ByteArray)[q.toNat]'(by show q.toNat < 16; omega)).toNat = hdN q.toNat := dig_all q.toNat (by omega)
set_option maxRecDepth 100000 in
set_option maxHeartbeats 4000000 in
theorem repHex_any (A : Option Addr) (c : Nat) (l : List Nat) (hl : l.length ≤ 1000000) (hb8 : ∀ x ∈ l, x < 256) (w : World) (hr : RByt w A l) :
    Calls Tryd.prog 50 #[.slice A l.length c] w fun e w' => e = .returned (.string (bstr (hexL l))) ∧ Below w.heap.size w w' := by
  have HR := Lib.hid hr
  obtain ⟨i0, hi0, hz0, hz1, hz2⟩ := info_parts info_byte
  have HI0 := Lib.hid hi0; have HZ0 := Lib.hid hz0; have HZ1 := Lib.hid hz1; have HZ2 := Lib.hid hz2
  have HCv := Lib.hid (fun ns A n W (h : RByt W A ns) => conv_by h n)
  clear hr hi0 hz0 hz1 hz2
  go_enter Tryd.func50, Tryd.ntmps50
  go_upto_region 3 with fail
  go_loopw [3, 8] (fun b i wr => ∃ k : Nat, k ≤ l.length ∧ i = .int .i64 k ∧ OByt wr w.heap.size b (hexL (l.take k)) ∧ Below w.heap.size w wr) (fun _ i _ => l.length - (intOf i).toNat)
  case atStart => exact ⟨0, by omega, rfl, obyt_nil _ _, Below.refl _ _⟩
  case round =>
    obtain ⟨k, hk, rfl, ho, hb⟩ := hrel
    have HO := Lib.hid ho; have HB := Lib.hid hb
    clear ho hb
    by_cases hgo : k < l.length
    · obtain ⟨ad, rfl, had, cx⟩ := (HR.out.next HB.out).at_ hgo
      have hwk : IntKind.i64.wrap ((k : Int) + 1) = (k : Int) + 1 := IntWalk.i64_in _ (by omega)
      have HS := Lib.hid (hex_snoc l k hgo)
      have hL : (hexL (l.take k)).length = 2 * k := by rw [hex_len, List.length_take]; omega
      have HL := Lib.hid hL
      have hx := hb8 l[k] (List.getElem_mem hgo)
      generalize l[k] = x at *
      have q3 := and15 x hx
      obtain ⟨y, hy⟩ : ∃ y, y = x % 16 := ⟨_, rfl⟩
      rw [← hy] at q3 HS
      have hy16 : y < 16 := by omega
      have p0 : (0 : Int) ≤ (x : Int) / 16 := by omega
      have p1 : (x : Int) / 16 < 16 := by omega
      obtain ⟨d1, hd1⟩ : ∃ d, d = hdN (x / 16) := ⟨_, rfl⟩
      obtain ⟨d2, hd2⟩ : ∃ d, d = hdN y := ⟨_, rfl⟩
      rw [← hd1, ← hd2] at HS
      have p2 := (dig_at ((x : Int) / 16) p0 p1).trans ((show hdN ((x : Int) / 16).toNat = hdN (x / 16) from by rw [show ((x : Int) / 16).toNat = x / 16 from by omega]).trans hd1.symm)
      have y0 : (0 : Int) ≤ (y : Int) := by omega
      have y1 : (y : Int) < 16 := by omega
      have y2 := (dig_at (y : Int) y0 y1).trans ((show hdN (y : Int).toNat = hdN y from rfl).trans hd2.symm)
      have y3 : ((⟨#[48, 49, 50, 51, 52, 53, 54, 55, 56, 57, 65, 66, 67, 68, 69, 70]⟩ : ByteArray)[y]'hy16).toNat = d2 := (dig_all y hy16).trans hd2.symm
      clear hy hd1 hd2 hx
      generalize hexL (l.take k) = L at *
      clear hL had
      go_upto_region 5 with fail
      have HOw := Lib.hid (obyt_own HO.out)
      go_region_law
        (first
          | (refine step_append_lies _ (by rfl) _ _ _ (by rfl) w.heap.size 5 i0 _ 1 1 Tryd.underlying24 HI0.out HZ0.out HZ1.out HZ2.out rfl (by decide) u3 L.length _ (by rfl) (by first | exact (World.ownsRow.alloc HOw.out _) | exact (World.ownsRow.drew (World.ownsRow.alloc HOw.out _)) | exact (World.ownsRow.alloc (World.ownsRow.drew HOw.out) _)) ⟨wr.heap.size, 0, none⟩ 2 2 [.int .u8 (d1 : Nat), .int .u8 (d2 : Nat)] (by rfl) (by rfl) (World.news_of_block (cs := #[.int .u8 (d1 : Nat), .int .u8 (d2 : Nat)]) (t := 5) (fr := (0, 0)) (heap_alloc_new _ _)) (by simp [Value.oneCell']) (by have := HL.out; omega) (by have := HL.out; unfold maxLen; omega) (by have := HL.out; omega) (by have := HB.out.size; simp; omega) (wr.heap.size + 1) (by simp) ?_; intro gg cap w4 hown4 hgrow hat hlt4; have HB4 : Hid (Below w.heap.size w w4) := Lib.hid (by have h1 := fun o => HB.out.alloc HB.out.size o; have h2 := fun o => (HB.out.alloc HB.out.size o).drew; have h3 := fun o => (HB.out.drew).alloc HB.out.size o; have hq := fun q hq => (World.ownsRow.lt HO.out q hq).1; first | exact (h1 _).grown hgrow (h1 _).size hq | exact (h2 _).grown hgrow (h2 _).size hq | exact (h3 _).grown hgrow (h3 _).size hq); have HO4 := Lib.hid hown4; clear hown4 hgrow hat hlt4))
      go_wp2_with fail
      all_goals
        go_roundw
        case rel => exact ⟨k + 1, by omega, by first | rfl | go_num, by rw [HS.out]; simpa [OByt] using HO4.out, HB4.out⟩
        case measure => simp [intOf]; omega
    · have hd : decide ((k : Int) < (l.length : Int)) = false := by simp; omega
      obtain rfl : k = l.length := by omega
      rw [List.take_length] at HO
      obtain ⟨Q, cq, rfl⟩ := OByt.form HO.out
      have hcv := HCv.out _ Q cq _ (OByt.reads HO.out)
      clear hgo
      go_wp2_with fail
      go_ret
      exact ⟨rfl, HB.out⟩
end Go.Proofs.YtpiliicphoacfaaDoor

namespace Go.Proofs.YtpiliicphoacfaaDoor

open Go Go.RowKit

theorem tmod65 (s : Int) : (s.tmod 65536 < 0 ∧ s.tmod 65536 + 65536 = s % 65536) ∨ (0 ≤ s.tmod 65536 ∧ s.tmod 65536 = s % 65536) := by
  rcases Int.le_total 0 s with h | h
  · rw [Int.tmod_eq_emod_of_nonneg h]
    omega
  · obtain ⟨m, rfl⟩ : ∃ m, s = -m := ⟨-s, by omega⟩
    rw [Int.neg_tmod, Int.tmod_eq_emod_of_nonneg (by omega)]
    omega
/-- The data of a checksum. -/
def sumL (n : Int) : List Nat := hexL [(n % 65536).toNat / 256, (n % 65536).toNat % 256]
def sumN (n : Int) : Nat := (n % 65536).toNat
theorem sum_four (n : Int) : sumL n = [hdN (sumN n / 4096), hdN (sumN n / 256 % 16), hdN (sumN n / 16 % 16), hdN (sumN n % 16)] := by
  unfold sumL sumN hexL
  generalize (n % 65536).toNat = m
  simp only [List.flatMap_cons, List.flatMap_nil, List.cons_append, List.nil_append]
  rw [show m / 256 / 16 = m / 4096 from by omega, show m % 256 / 16 = m / 16 % 16 from by omega, show m % 256 % 16 = m % 16 from by omega]
theorem sumN_lt (n : Int) : sumN n < 65536 := by unfold sumN; omega

theorem bytes_size (l : List Nat) : (bstr l).size = l.length := bstr_size l
set_option maxRecDepth 100000 in
set_option maxHeartbeats 4000000 in
theorem repSum_any (eight : Bool) (id n : Int) (w : World) (ht : Ten w) :
    Calls Tryd.prog 30 #[.bool eight, .int .i64 id, .int .i64 n] w fun e w' => Gives w w' e (repL 5 ⟨#[33, 126]⟩ (bstr (sumL n)) [id] eight) ∧ Below w.heap.size w w' := by
  obtain ⟨a, ha⟩ : ∃ a : Nat, a = (n % 65536).toNat / 256 := ⟨_, rfl⟩
  obtain ⟨b, hb⟩ : ∃ b : Nat, b = (n % 65536).toNat % 256 := ⟨_, rfl⟩
  have hS : sumL n = hexL [a, b] := by unfold sumL; rw [ha, hb]
  have hwa : IntKind.u8.wrap (n / 256) = (a : Int) := by rw [IntKind.wrap_u8]; omega
  have hwb : IntKind.u8.wrap n = (b : Int) := by rw [IntKind.wrap_u8]; omega
  have ha2 : a < 256 := by omega
  have hb2 : b < 256 := by omega
  have HS := Lib.hid hS
  have hbl : Below w.heap.size w (w.alloc (.cells #[.int .u8 (a : Int), .int .u8 (b : Int)] 5)) := (Below.refl _ _).alloc (Nat.le_refl _) _
  have hO : OByt (w.alloc (.cells #[.int .u8 (a : Int), .int .u8 (b : Int)] 5)) w.heap.size (.slice (some ⟨w.heap.size, 0, none⟩) [a, b].length 2) [a, b] := World.ownsRow_lit w #[.int .u8 (a : Int), .int .u8 (b : Int)] 2 (Nat.le_refl _) (by unfold maxLen; omega) rfl
  have HH := Lib.hid (repHex_any (some ⟨w.heap.size, 0, none⟩) 2 [a, b] (by simp) (by intro x hx; simp at hx; omega) _ (OByt.reads hO))
  have HB := Lib.hid hbl
  have HT := Lib.hid (ht.next hbl)
  have hl4 : (hexL [a, b]).length = 4 := by rw [hex_len]; rfl
  rw [hS]
  have hsz : (bstr (hexL [a, b])).size ≤ maxLen := by rw [bstr_size, hl4]; unfold maxLen; omega
  generalize bstr (hexL [a, b]) = s at *
  have HD := Lib.hid (fun (W : World) (W0 : Nat) (_ : W.heap.size = W0) t hr => dcs_any eight ⟨#[33, 126]⟩ s (some ⟨W0, 0, none⟩) 1 [id] (by simp [maxLen]) (by simp) (size_le (n := 2) rfl (by decide)) hsz (W.alloc (.cells #[.int .i64 id] 3)) t hr)
  clear ht ha hb hS ha2 hb2 hbl hO hl4 hsz HS
  generalize repL 5 ⟨#[33, 126]⟩ s [id] eight = l at *
  go_enter Tryd.func30, Tryd.ntmps30
  go_wp2_with fail
  refine HH.out.mono ?_
  rintro e w1 ⟨rfl, h1⟩
  have HB1 := Lib.hid (HB.out.trans (h1.mono HB.out.size)); have HT1 := Lib.hid (HT.out.next h1)
  clear h1
  go_wp2_with fail
  have h2 := (Below.refl w1.heap.size w1).alloc (Nat.le_refl _) (.cells #[.int .i64 id] 3)
  refine (HD.out w1 _ rfl (HT1.out.next h2) (rints_new w1 3 [id] #[.int .i64 id] rfl w1.heap.size rfl)).mono ?_
  rintro e w2 h
  obtain ⟨v, rfl, hv⟩ := gives_back h (HB1.out.trans (h2.mono HB1.out.size))
  have HV := Lib.hid hv
  clear h hv h2
  go_wp2_with fail
  go_ret
  exact ⟨⟨v, rfl, HV.out.1⟩, HV.out.2⟩

theorem single_bytes (eight : Bool) : wrtL 3 79 0 [] ⟨#[]⟩ [] eight = if eight then [143] else [27, 79] := by cases eight <;> decide +kernel

end Go.Proofs.YtpiliicphoacfaaDoor

namespace Go.Proofs.YtpiliicphoacfaaDoor

open Go Go.RowKit

theorem nums_in (ns : List Int) : (numsT ns).any outB = false := by
  rw [List.any_eq_false]
  intro x hx
  unfold numsT at hx
  obtain ⟨n, _, rfl⟩ := List.mem_map.1 hx
  unfold outB clip65
  have : clipP (clipP n 0 65535) 0 65535 = clipP n 0 65535 := by unfold clipP; omega
  rw [this]
  simp
theorem small_nums {s : ByteArray} {dt : List Nat} (ns : List Int) (hs : s.size ≤ 3) (hd : dt.length ≤ 4096) : smallB (numsT ns) s dt = true := by
  unfold smallB
  rw [nums_in]
  have := nums_len ns
  simp [hs, hd, this]
theorem chk_nums4 {c m : Nat} {s : ByteArray} (ns : List Int) (hs : s.size ≤ 3) (h : (codedB 4 c s && writtenB m s []) = true) : checkP 4 c m (numsT ns) s [] = 0 := by
  have hp : pureB 4 c m (numsT ns) s [] = true := by
    unfold pureB
    rw [if_neg (by omega), if_neg (by omega), if_pos rfl]
    decide +kernel
  unfold checkP
  rw [if_neg (by omega), if_neg (by rw [small_nums ns hs (by simp)]; simp), if_neg (by rw [hp, h]; simp)]
theorem chk_nums5 {c m : Nat} {s : ByteArray} {dt : List Nat} (ns : List Int) (hs : s.size ≤ 3) (hd : dt.length ≤ 4096) (h : (codedB 5 c s && writtenB m s dt) = true) : checkP 5 c m (numsT ns) s dt = 0 := by
  have hp : pureB 5 c m (numsT ns) s dt = true := by
    unfold pureB
    rw [if_neg (by omega), if_neg (by omega), if_neg (by omega), if_pos rfl]
  unfold checkP
  rw [if_neg (by omega), if_neg (by rw [small_nums ns hs hd]; simp), if_neg (by rw [hp, h]; simp)]
theorem lead_ne (c : Nat) (eight : Bool) : leadL c eight ≠ [] := by unfold leadL; split <;> simp
theorem repL_ne4 (id : ByteArray) (ns : List Int) (eight : Bool) (h0 : id.size ≠ 0) (hs : (tkS id).size ≤ 3) (h : (codedB 4 (byteAt id (id.size - 1)) (tkS id) && writtenB (tkM id) (tkS id) []) = true) : repL 4 id ⟨#[]⟩ ns eight ≠ [] := by
  unfold repL
  have e0 : natL (ByteArray.mk #[]).data.toList = [] := rfl
  rw [if_neg h0, e0, if_pos (chk_nums4 ns hs h)]
  unfold bytesL
  rw [if_neg (by omega), if_neg (by omega)]
  intro e
  exact lead_ne _ _ (List.append_eq_nil_iff.1 (List.append_eq_nil_iff.1 e).1).1
theorem repL_ne5 (id data : ByteArray) (ns : List Int) (eight : Bool) (h0 : id.size ≠ 0) (hs : (tkS id).size ≤ 3) (hd : (natL data.data.toList).length ≤ 4096) (h : (codedB 5 (byteAt id (id.size - 1)) (tkS id) && writtenB (tkM id) (tkS id) (natL data.data.toList)) = true) : repL 5 id data ns eight ≠ [] := by
  unfold repL
  rw [if_neg h0, if_pos (chk_nums5 ns hs hd h)]
  unfold bytesL
  rw [if_neg (by omega), if_neg (by omega)]
  intro e
  exact lead_ne _ _ (List.append_eq_nil_iff.1 (List.append_eq_nil_iff.1 e).1).1
theorem ne_c (ns : List Int) (eight : Bool) : repL 4 ⟨#[63, 99]⟩ ⟨#[]⟩ ns eight ≠ [] := repL_ne4 _ ns eight (by decide) (by decide) (by decide +kernel)
theorem ne_c2 (ns : List Int) (eight : Bool) : repL 4 ⟨#[62, 99]⟩ ⟨#[]⟩ ns eight ≠ [] := repL_ne4 _ ns eight (by decide) (by decide) (by decide +kernel)
theorem ne_r (ns : List Int) (eight : Bool) : repL 4 ⟨#[82]⟩ ⟨#[]⟩ ns eight ≠ [] := repL_ne4 _ ns eight (by decide) (by decide) (by decide +kernel)
theorem ne_qr (ns : List Int) (eight : Bool) : repL 4 ⟨#[63, 82]⟩ ⟨#[]⟩ ns eight ≠ [] := repL_ne4 _ ns eight (by decide) (by decide) (by decide +kernel)
theorem ne_y (ns : List Int) (eight : Bool) : repL 4 ⟨#[36, 121]⟩ ⟨#[]⟩ ns eight ≠ [] := repL_ne4 _ ns eight (by decide) (by decide) (by decide +kernel)
theorem ne_qy (ns : List Int) (eight : Bool) : repL 4 ⟨#[63, 36, 121]⟩ ⟨#[]⟩ ns eight ≠ [] := repL_ne4 _ ns eight (by decide) (by decide) (by decide +kernel)
theorem ne_u (ns : List Int) (eight : Bool) : repL 5 ⟨#[33, 124]⟩ ⟨#[48, 48, 48, 48, 48, 48, 48, 48]⟩ ns eight ≠ [] := repL_ne5 _ _ ns eight (by decide) (by decide) (by decide) (by decide +kernel)
theorem hd_data : ∀ d : Nat, d < 16 → noDataB (hdN d) = false ∧ hdN d < 256 := by decide +kernel
theorem natL_bstr {l : List Nat} (h : ∀ n ∈ l, n < 256) : natL (bstr l).data.toList = l := by
  rw [bstr_list]
  unfold natL
  rw [List.map_map]
  conv => rhs; rw [← List.map_id l]
  exact List.map_congr_left fun n hn => by simp [Nat.mod_eq_of_lt (h n hn)]
theorem sum_data (n : Int) : natL (bstr (sumL n)).data.toList = sumL n ∧ (sumL n).any noDataB = false ∧ (sumL n).length = 4 := by
  have hlt := sumN_lt n
  rw [sum_four]
  have h1 := hd_data (sumN n / 4096) (by omega)
  have h2 := hd_data (sumN n / 256 % 16) (by omega)
  have h3 := hd_data (sumN n / 16 % 16) (by omega)
  have h4 := hd_data (sumN n % 16) (by omega)
  refine ⟨natL_bstr ?_, ?_, rfl⟩
  · intro x hx
    simp only [List.mem_cons, List.not_mem_nil, or_false] at hx
    rcases hx with rfl | rfl | rfl | rfl
    · exact h1.2
    · exact h2.2
    · exact h3.2
    · exact h4.2
  · simp [h1.1, h2.1, h3.1, h4.1]
theorem ne_sum (n : Int) (ns : List Int) (eight : Bool) : repL 5 ⟨#[33, 126]⟩ (bstr (sumL n)) ns eight ≠ [] := by
  obtain ⟨h1, h2, h3⟩ := sum_data n
  refine repL_ne5 _ _ ns eight (by decide) (by decide) (by rw [h1, h3]; omega) ?_
  rw [h1]
  have e : tkS ⟨#[33, 126]⟩ = ⟨#[33]⟩ := by decide +kernel
  unfold writtenB
  rw [h2, e]
  decide +kernel
theorem fix_a : bstr (repL 4 ⟨#[63, 36, 121]⟩ ⟨#[]⟩ [7, 1] false) = ⟨#[27, 91, 63, 55, 59, 49, 36, 121]⟩ := by decide +kernel
theorem fix_b : bstr (repL 4 ⟨#[82]⟩ ⟨#[]⟩ [toldP 0, toldP 0] true) = ⟨#[155, 49, 59, 49, 82]⟩ := by decide +kernel
theorem fix_c : bstr (repL 5 ⟨#[33, 126]⟩ (bstr (sumL 255)) [3] false) = ⟨#[27, 80, 51, 33, 126, 48, 48, 70, 70, 27, 92]⟩ := by decide +kernel
end Go.Proofs.YtpiliicphoacfaaDoor

namespace Go.Proofs.YtpiliicphoacfaaDoor

open Go Go.RowKit

/-- What a call gave, as a text. -/
theorem gives_text {w w1 w2 : World} {e : Ending} {l : List Nat} {s : ByteArray} (hs : bstr l = s) (h : Gives w1 w2 e l ∧ Below w1.heap.size w1 w2) (hb : Below w.heap.size w w1) :
    ∃ A n, e = .returned (.slice A l.length n) ∧ (∀ W, Below w2.heap.size w2 W → (convert 24 9 (.slice A l.length n)).run Tryd.prog W = .ok (.string s) W) ∧ Below w.heap.size w w2 := by
  obtain ⟨v, rfl, hv, h2⟩ := gives_back h hb
  obtain ⟨A, n, rfl⟩ := OByt.form hv
  refine ⟨A, n, rfl, fun W hW => ?_, h2⟩
  rw [← hs]
  exact conv_by (OByt.reads (hv.next hW)) n
set_option maxRecDepth 100000 in
set_option maxHeartbeats 4000000 in
theorem repAwake_any (w : World) (ht : Ten w) :
    Calls Tryd.prog 13 #[] w fun e w' => e = .returned (.bool true) ∧ Below w.heap.size w w' := by
  have hb : Below w.heap.size w (w.alloc (.cells #[.int .i64 7, .int .i64 1] 3)) := (Below.refl _ _).alloc (Nat.le_refl _) _
  have H1 := Lib.hid (csi_any false ⟨#[63, 36, 121]⟩ (some ⟨w.heap.size, 0, none⟩) 2 [7, 1] (by simp [maxLen]) (by simp) (size_le (n := 3) rfl (by decide)) _ (ht.next hb) (rints_new w 3 [7, 1] #[.int .i64 7, .int .i64 1] rfl w.heap.size rfl))
  have HB := Lib.hid hb; have HT := Lib.hid ht
  have H2 := Lib.hid (fun W t => repPlace_any true 0 0 (-1) (by omega) (by omega) (by omega) (by omega) (by omega) (by omega) W t)
  have H3 := Lib.hid (fun W t => repSum_any false 3 255 W t)
  have F1 := Lib.hid fix_a; have F2 := Lib.hid fix_b; have F3 := Lib.hid fix_c
  rw [if_pos (by omega)] at H2
  generalize repL 4 ⟨#[63, 36, 121]⟩ ⟨#[]⟩ [7, 1] false = l1 at *
  generalize repL 4 ⟨#[82]⟩ ⟨#[]⟩ [toldP 0, toldP 0] true = l2 at *
  generalize repL 5 ⟨#[33, 126]⟩ (bstr (sumL 255)) [3] false = l3 at *
  clear hb ht
  go_enter Tryd.func13, Tryd.ntmps13
  go_wp2_with fail
  refine H1.out.mono ?_
  rintro e w1 h
  obtain ⟨A1, n1, rfl, hc1, hb1⟩ := gives_text F1.out h HB.out
  have hcv := hc1 w1 (Below.refl _ _)
  have HB1 := Lib.hid hb1
  clear h hc1 hb1
  go_wp2_with fail
  refine (H2.out w1 (HT.out.next HB1.out)).mono ?_
  rintro e w2 h
  obtain ⟨A2, n2, rfl, hc2, hb2⟩ := gives_text F2.out h HB1.out
  have hcv2 := hc2 w2 (Below.refl _ _)
  have HB2 := Lib.hid hb2
  clear h hc2 hb2 hcv
  go_wp2_with fail
  refine (H3.out w2 (HT.out.next HB2.out)).mono ?_
  rintro e w3 h
  obtain ⟨A3, n3, rfl, hc3, hb3⟩ := gives_text F3.out h HB2.out
  have hcv3 := hc3 w3 (Below.refl _ _)
  have HB3 := Lib.hid hb3
  clear h hc3 hb3 hcv2
  go_wp2_with fail
  go_ret
  exact ⟨rfl, HB3.out⟩
end Go.Proofs.YtpiliicphoacfaaDoor

namespace Go.Proofs.YtpiliicphoacfaaDoor
open Go Go.RowKit
set_option maxRecDepth 100000

theorem clip_in {n : Int} (h : 0 ≤ n ∧ n ≤ 65535) : clip65 n = n := by
  show clipP n 0 65535 = n
  unfold clipP
  omega
theorem out_in {ns : List Int} (h : ∀ n ∈ ns, 0 ≤ n ∧ n ≤ 65535) : ns.any outB = false := by
  rw [List.any_eq_false]
  intro n hn
  have := clip_in (h n hn)
  unfold clip65 at this
  unfold outB
  simp [this]
theorem nums_in_ {ns : List Int} (hl : ns.length ≤ 30) (h : ∀ n ∈ ns, 0 ≤ n ∧ n ≤ 65535) : numsT ns = ns := by
  unfold numsT
  rw [List.take_of_length_le hl]
  conv => rhs; rw [← List.map_id ns]
  exact List.map_congr_left (fun n hn => clip_in (h n hn))
theorem told_in {a : Int} (h : 0 ≤ a ∧ a ≤ 60000) : toldP a = a + 1 := by unfold toldP; omega
theorem check_csi (c m : Nat) (ps : List Int) (hl : ps.length ≤ 30) (h : ∀ n ∈ ps, 0 ≤ n ∧ n ≤ 65535) (hr : (pureB 4 c m [] ⟨#[]⟩ [] && (codedB 4 c ⟨#[]⟩ && writtenB m ⟨#[]⟩ [])) = true) : checkP 4 c m ps ⟨#[]⟩ [] = 0 := by
  have hs : smallB ps ⟨#[]⟩ [] = true := by
    unfold smallB
    rw [out_in h, decide_eq_true hl]
    rfl
  have hp : pureB 4 c m ps ⟨#[]⟩ [] = pureB 4 c m [] ⟨#[]⟩ [] := rfl
  unfold checkP
  rw [if_neg (by decide), hs, hp, hr]
  rfl
theorem place_one {a b : Int} (ha : 0 ≤ a ∧ a ≤ 60000) (hb : 0 ≤ b ∧ b ≤ 60000) (e : Bool) : repL 4 ⟨#[82]⟩ ⟨#[]⟩ [toldP a, toldP b] e = bytesL 4 82 0 [a + 1, b + 1] ⟨#[]⟩ [] e ∧ checkP 4 82 0 [a + 1, b + 1] ⟨#[]⟩ [] = 0 := by
  have hin : ∀ n ∈ [a + 1, b + 1], 0 ≤ n ∧ n ≤ 65535 := fun n hn => by simp at hn; omega
  have hc := check_csi 82 0 [a + 1, b + 1] (by simp) hin (by decide +kernel)
  refine ⟨?_, hc⟩
  rw [told_in ha, told_in hb]
  unfold repL
  have e1 : byteAt ⟨#[82]⟩ ((ByteArray.mk #[82]).size - 1) = 82 := by decide +kernel
  have e2 : tkM ⟨#[82]⟩ = 0 := by decide +kernel
  have e3 : tkS ⟨#[82]⟩ = ⟨#[]⟩ := by kernel_rfl
  have e4 : natL (ByteArray.mk #[]).data.toList = [] := rfl
  rw [if_neg (by decide), nums_in_ (by simp) hin, e1, e2, e3, e4, if_pos hc]
theorem place_two {a b : Int} (ha : 0 ≤ a ∧ a ≤ 60000) (hb : 0 ≤ b ∧ b ≤ 60000) (e : Bool) : repL 4 ⟨#[63, 82]⟩ ⟨#[]⟩ [toldP a, toldP b, toldP 7] e = bytesL 4 82 63 [a + 1, b + 1, 8] ⟨#[]⟩ [] e ∧ checkP 4 82 63 [a + 1, b + 1, 8] ⟨#[]⟩ [] = 0 := by
  have hin : ∀ n ∈ [a + 1, b + 1, 8], 0 ≤ n ∧ n ≤ 65535 := fun n hn => by simp at hn; omega
  have hc := check_csi 82 63 [a + 1, b + 1, 8] (by simp) hin (by decide +kernel)
  refine ⟨?_, hc⟩
  rw [told_in ha, told_in hb, show toldP 7 = 8 from rfl]
  unfold repL
  have e1 : byteAt ⟨#[63, 82]⟩ ((ByteArray.mk #[63, 82]).size - 1) = 82 := by decide +kernel
  have e2 : tkM ⟨#[63, 82]⟩ = 63 := by decide +kernel
  have e3 : tkS ⟨#[63, 82]⟩ = ⟨#[]⟩ := by kernel_rfl
  have e4 : natL (ByteArray.mk #[]).data.toList = [] := rfl
  rw [if_neg (by decide), nums_in_ (by simp) hin, e1, e2, e3, e4, if_pos hc]
theorem places_read {a b : Int} (ha : 0 ≤ a ∧ a ≤ 60000) (hb : 0 ≤ b ∧ b ≤ 60000) (e f : Bool) : feedL ps0 (repL 4 ⟨#[82]⟩ ⟨#[]⟩ [toldP a, toldP b] e ++ repL 4 ⟨#[63, 82]⟩ ⟨#[]⟩ [toldP a, toldP b, toldP 7] f) = (ps0, [⟨4, 82, 0, [a + 1, b + 1], ⟨#[]⟩, []⟩, ⟨4, 82, 63, [a + 1, b + 1, 8], ⟨#[]⟩, []⟩]) := by
  rw [(place_one ha hb e).1, (place_two ha hb f).1, feedL_append, feed_tok (place_one ha hb e).2 (by simp) e]
  dsimp only
  rw [feed_tok (place_two ha hb f).2 (by simp) f]
  rfl
theorem rep_len (k : Int) (id data : ByteArray) (ns : List Int) (e : Bool) : (repL k id data ns e).length ≤ 4290 := by
  unfold repL
  split
  · simp
  · split
    · rename_i h
      have hcd : byteAt id (id.size - 1) < 256 := byteAt_lt _ _
      have hdt : ∀ n ∈ natL data.data.toList, n < 256 := fun n hn => by
        obtain ⟨x, _, rfl⟩ := List.mem_map.1 hn
        exact UInt8.toNat_lt x
      exact bys_len (t := ⟨k, _, _, _, _, _⟩) ⟨hcd, h, hdt⟩ e
    · simp
theorem rep_lt (k : Int) (id data : ByteArray) (ns : List Int) (e : Bool) : ∀ n ∈ repL k id data ns e, n < 256 := by
  intro n hn
  unfold repL at hn
  split at hn
  · cases hn
  · split at hn
    · rename_i h
      have hcd : byteAt id (id.size - 1) < 256 := byteAt_lt _ _
      have hdt : ∀ n ∈ natL data.data.toList, n < 256 := fun n hn => by
        obtain ⟨x, _, rfl⟩ := List.mem_map.1 hn
        exact UInt8.toNat_lt x
      exact bys_lt (t := ⟨k, _, _, _, _, _⟩) ⟨hcd, h, hdt⟩ e n hn
    · cases hn
/-- Two tokens of a list of one's own. -/
theorem two_toks {W : World} {base n : Nat} {A : Option Addr} {t u : Tok} (h : OTks W base (.slice A 2 n) [t, u]) : ∃ g P p D d Q q E f, A = some ⟨g, 0, none⟩ ∧ (RInts W P t.ps ∧ RByt W D t.dt ∧ RInts W Q u.ps ∧ RByt W E u.dt) ∧
    (W.cell? ⟨g, 0, none⟩ = some (.int .i64 t.kd) ∧ W.cell? ⟨g, 1, none⟩ = some (.int .u8 (t.cd : Int)) ∧ W.cell? ⟨g, 2, none⟩ = some (.int .u8 (t.mr : Int)) ∧ W.cell? ⟨g, 3, none⟩ = some (.slice P t.ps.length p) ∧ W.cell? ⟨g, 4, none⟩ = some (.string t.it) ∧ W.cell? ⟨g, 5, none⟩ = some (.slice D t.dt.length d)) ∧
    (W.cell? ⟨g, 6, none⟩ = some (.int .i64 u.kd) ∧ W.cell? ⟨g, 7, none⟩ = some (.int .u8 (u.cd : Int)) ∧ W.cell? ⟨g, 8, none⟩ = some (.int .u8 (u.mr : Int)) ∧ W.cell? ⟨g, 9, none⟩ = some (.slice Q u.ps.length q) ∧ W.cell? ⟨g, 10, none⟩ = some (.string u.it) ∧ W.cell? ⟨g, 11, none⟩ = some (.slice E u.dt.length f)) := by
  obtain ⟨xs, h1, h2⟩ := h
  obtain ⟨g, cap, e, _⟩ := h1.form (by simp)
  cases e
  match xs, h2 with
  | [x, y], ⟨⟨P, p, D, d, e1, q1, q2⟩, ⟨Q, q, E, f, e2, q3, q4⟩, _⟩ =>
    cases e1; cases e2
    have c := fun j hj => h1.cellAt j hj
    exact ⟨g, P, p, D, d, Q, q, E, f, rfl, ⟨OInts.reads q1, OByt.reads q2, OInts.reads q3, OByt.reads q4⟩, ⟨c 0 (by decide), c 1 (by decide), c 2 (by decide), c 3 (by decide), c 4 (by decide), c 5 (by decide)⟩, ⟨c 6 (by decide), c 7 (by decide), c 8 (by decide), c 9 (by decide), c 10 (by decide), c 11 (by decide)⟩⟩
end Go.Proofs.YtpiliicphoacfaaDoor

/-
  Tokens that can be, one behind the other.
  Places that are told and read again.
-/
import Derived.Test.YtigaaidacndeiaaGreatDoorPrfV
import Derived.Test.YtigaaidacndeiaaGreatDoorTokP
import Derived.Test.YtigaaidacndeiaaGreatDoorRepJ
namespace Go.Proofs.YtigaaidacndeiaaGreatDoor

open Go Go.RowKit
set_option maxRecDepth 100000

def okB (t : Tok) : Bool := decide (checkP t.kd t.cd t.mr t.ps t.it t.dt = 0)
def gsT (l : List Tok) (k : Nat) : List Tok := (l.take k).filter okB
theorem gsT_yes {l : List Tok} {k : Nat} (h : k < l.length) (ho : okB l[k] = true) : gsT l (k + 1) = gsT l k ++ [l[k]] := by
  unfold gsT
  rw [List.take_succ_eq_append_getElem h, List.filter_append]
  simp [ho]
theorem gsT_no {l : List Tok} {k : Nat} (h : k < l.length) (ho : okB l[k] = false) : gsT l (k + 1) = gsT l k := by
  unfold gsT
  rw [List.take_succ_eq_append_getElem h, List.filter_append]
  simp [ho]
theorem gsT_len (l : List Tok) (k : Nat) : (gsT l k).length ≤ k := by
  unfold gsT
  have h1 := List.length_filter_le okB (l.take k)
  have h2 : (l.take k).length ≤ k := by rw [List.length_take]; omega
  omega
theorem gsT_can {l : List Tok} (h : ∀ t ∈ l, t.cd < 256 ∧ ∀ n ∈ t.dt, n < 256) (k : Nat) : ∀ t ∈ gsT l k, t.can := by
  intro t ht
  unfold gsT at ht
  obtain ⟨h1, h2⟩ := List.mem_filter.1 ht
  have h3 := h t (List.mem_of_mem_take h1)
  exact ⟨h3.1, of_decide_eq_true h2, h3.2⟩
theorem can_szs {t : Tok} (h : t.can) : t.szs := by
  obtain ⟨_, _, _, h4, _⟩ := check_zero h.2.1
  show t.ps.length ≤ maxLen
  unfold maxLen; omega
def gsB (l : List Tok) (k : Nat) (e : Bool) : List Nat := (gsT l k).flatMap fun t => t.bys e
theorem gsB_yes {l : List Tok} {k : Nat} (h : k < l.length) (ho : okB l[k] = true) (e : Bool) : gsB l (k + 1) e = gsB l k e ++ l[k].bys e := by
  unfold gsB
  rw [gsT_yes h ho, List.flatMap_append, List.flatMap_singleton]
theorem gsB_len {l : List Tok} (h : ∀ t ∈ l, t.cd < 256 ∧ ∀ n ∈ t.dt, n < 256) (k : Nat) (e : Bool) : (gsB l k e).length ≤ k * 4290 := by
  have h1 := flat_len e (gsT l k) (gsT_can h k)
  have h2 := Nat.mul_le_mul_right 4290 (gsT_len l k)
  unfold gsB
  omega
theorem gsB_lt {l : List Tok} (h : ∀ t ∈ l, t.cd < 256 ∧ ∀ n ∈ t.dt, n < 256) (k : Nat) (e : Bool) : ∀ n ∈ gsB l k e, n < 256 := by
  intro n hn
  unfold gsB at hn
  obtain ⟨t, ht, hn⟩ := List.mem_flatMap.1 hn
  exact bys_lt (gsT_can h k t ht) e n hn
theorem own_apartV {w : World} {b1 b2 s1 s2 n1 n2 : Nat} {T1 T2 : TypeId} {v1 v2 : Value} {x1 x2 : List Value} (h1 : w.ownsRow b1 T1 s1 v1 n1 x1) (h2 : w.ownsRow b2 T2 s2 v2 n2 x2) (hT : T1 ≠ T2) : v1.ownBlock = none ∨ v1.ownBlock ≠ v2.ownBlock := by
  rcases hk : v1.ownBlock with _ | k
  · exact .inl rfl
  · right
    intro e
    rcases h2.2 with ⟨rfl, _⟩ | ⟨g1, cap, cur, rfl, _, hg, _⟩
    · cases e
    · obtain rfl : k = g1 := by simpa [Value.ownBlock] using e
      exact own_ty h1 hg hT hk
/-- What is kept from token to token. -/
structure BkW (w1 : World) (l : List Tok) (eight : Bool) (k : Nat) (va vb : Value) (W : World) : Prop where
  a : W.ownsRow w1.heap.size 5 1 va (gsB l k eight).length (u8s (gsB l k eight))
  b : ∃ xs : List (Array Value), W.ownsRow w1.heap.size 88 6 vb (gsT l k).length (xs.flatMap Array.toList) ∧ RTl w1 xs (gsT l k)
  bel : Below w1.heap.size w1 W
theorem BkW.start (w1 : World) (l : List Tok) (eight : Bool) : BkW w1 l eight 0 (.slice none 0 0) (.slice none 0 0) w1 :=
  ⟨World.ownsRow_nil _ _ _ _, ⟨[], World.ownsRow_nil _ _ _ _, trivial⟩, Below.refl _ _⟩
theorem BkW.next {w1 W W' : World} {l : List Tok} {eight : Bool} {k : Nat} {va vb : Value} (h : BkW w1 l eight k va vb W) (hb : Below W.heap.size W W') : BkW w1 l eight k va vb W' := by
  obtain ⟨xs, h1, h2⟩ := h.b
  exact ⟨own_more h.a hb, ⟨xs, own_more h1 hb, h2⟩, h.bel.trans (hb.mono h.bel.size)⟩
theorem BkW.skip {w1 W : World} {l : List Tok} {eight : Bool} {k : Nat} {va vb : Value} (h : BkW w1 l eight k va vb W) (hk : k < l.length) (ho : okB l[k] = false) : BkW w1 l eight (k + 1) va vb W := by
  have e1 := gsT_no hk ho
  have e2 : gsB l (k + 1) eight = gsB l k eight := by unfold gsB; rw [e1]
  exact ⟨by rw [e2]; exact h.a, by rw [e1]; exact h.b, h.bel⟩
/-- .. where its bytes stand there already. -/
structure BkM (w1 : World) (l : List Tok) (eight : Bool) (k : Nat) (va vb : Value) (W : World) : Prop where
  a : W.ownsRow w1.heap.size 5 1 va (gsB l (k + 1) eight).length (u8s (gsB l (k + 1) eight))
  b : ∃ xs : List (Array Value), W.ownsRow w1.heap.size 88 6 vb (gsT l k).length (xs.flatMap Array.toList) ∧ RTl w1 xs (gsT l k)
  bel : Below w1.heap.size w1 W
theorem BkM.next {w1 W W' : World} {l : List Tok} {eight : Bool} {k : Nat} {va vb : Value} (h : BkM w1 l eight k va vb W) (hb : Below W.heap.size W W') : BkM w1 l eight k va vb W' := by
  obtain ⟨xs, h1, h2⟩ := h.b
  exact ⟨own_more h.a hb, ⟨xs, own_more h1 hb, h2⟩, h.bel.trans (hb.mono h.bel.size)⟩
theorem BkW.mid {w1 W W1 : World} {l : List Tok} {eight : Bool} {k n1 : Nat} {va vb va' : Value} {x1 : List Value} (h : BkW w1 l eight k va vb W) (e1 : n1 = (gsB l (k + 1) eight).length) (z1 : x1 = u8s (gsB l (k + 1) eight))
    (o1 : W1.ownsRow w1.heap.size 5 1 va' n1 x1) (g1 : W.grownBy W1 va.ownBlock) : BkM w1 l eight k va' vb W1 := by
  subst e1 z1
  obtain ⟨xs, h1, h2⟩ := h.b
  exact ⟨o1, ⟨xs, World.ownsRow.kept (row := va.ownBlock) h1 g1 (own_apartV h1 h.a (by decide)), h2⟩, below_row h.bel g1 (own_ge h.a) h.bel.size⟩
theorem BkM.push {w1 W W1 : World} {l : List Tok} {eight : Bool} {k n2 : Nat} {va vb vb' : Value} {xs : List (Array Value)} {x2 : List Value} {X : Array Value} (h : BkM w1 l eight k va vb W) (hk : k < l.length) (ho : okB l[k] = true) (h1 : W.ownsRow w1.heap.size 88 6 vb (gsT l k).length (xs.flatMap Array.toList)) (h2 : RTl w1 xs (gsT l k))
    (hX : ∃ A c B d, X = l[k].cs A c B d ∧ RInts w1 A l[k].ps ∧ RByt w1 B l[k].dt) (e2 : n2 = (gsT l k).length + 1) (z2 : x2 = xs.flatMap Array.toList ++ X.toList)
    (o2 : W1.ownsRow w1.heap.size 88 6 vb' n2 x2) (g2 : W.grownBy W1 vb.ownBlock) : BkW w1 l eight (k + 1) va vb' W1 := by
  subst e2 z2
  refine ⟨World.ownsRow.kept (row := vb.ownBlock) h.a g2 (own_apartV h.a h1 (by decide)), ⟨xs ++ [X], ?_, ?_⟩, below_row h.bel g2 (own_ge h1) h.bel.size⟩
  · rw [gsT_yes hk ho, List.length_append, List.flatMap_append, List.flatMap_singleton]
    exact o2
  · rw [gsT_yes hk ho]
    exact RTl.snoc hX h2
end Go.Proofs.YtigaaidacndeiaaGreatDoor

namespace Go.Proofs.YtigaaidacndeiaaGreatDoor

open Go Go.RowKit
set_option maxRecDepth 100000

theorem clip_in {n : Int} (h : 0 ≤ n ∧ n ≤ 65535) : clip65 n = n := by
  show clipP n 0 65535 = n
  unfold clipP
  omega
theorem out_in {ns : List Int} (h : ∀ n ∈ ns, 0 ≤ n ∧ n ≤ 65535) : ns.any outB = false := by
  rw [List.any_eq_false]
  intro n hn
  have := clip_in (h n hn)
  unfold clip65 at this
  unfold outB
  simp [this]
theorem nums_in_ {ns : List Int} (hl : ns.length ≤ 30) (h : ∀ n ∈ ns, 0 ≤ n ∧ n ≤ 65535) : numsT ns = ns := by
  unfold numsT
  rw [List.take_of_length_le hl]
  conv => rhs; rw [← List.map_id ns]
  exact List.map_congr_left (fun n hn => clip_in (h n hn))
theorem told_in {a : Int} (h : 0 ≤ a ∧ a ≤ 60000) : toldP a = a + 1 := by unfold toldP; omega
theorem check_csi (c m : Nat) (ps : List Int) (hl : ps.length ≤ 30) (h : ∀ n ∈ ps, 0 ≤ n ∧ n ≤ 65535) (hr : (pureB 4 c m [] ⟨#[]⟩ [] && (codedB 4 c ⟨#[]⟩ && writtenB m ⟨#[]⟩ [])) = true) : checkP 4 c m ps ⟨#[]⟩ [] = 0 := by
  have hs : smallB ps ⟨#[]⟩ [] = true := by
    unfold smallB
    rw [out_in h, decide_eq_true hl]
    rfl
  have hp : pureB 4 c m ps ⟨#[]⟩ [] = pureB 4 c m [] ⟨#[]⟩ [] := rfl
  unfold checkP
  rw [if_neg (by decide), hs, hp, hr]
  rfl
theorem place_one {a b : Int} (ha : 0 ≤ a ∧ a ≤ 60000) (hb : 0 ≤ b ∧ b ≤ 60000) (e : Bool) : repL 4 ⟨#[82]⟩ ⟨#[]⟩ [toldP a, toldP b] e = bytesL 4 82 0 [a + 1, b + 1] ⟨#[]⟩ [] e ∧ checkP 4 82 0 [a + 1, b + 1] ⟨#[]⟩ [] = 0 := by
  have hin : ∀ n ∈ [a + 1, b + 1], 0 ≤ n ∧ n ≤ 65535 := fun n hn => by simp at hn; omega
  have hc := check_csi 82 0 [a + 1, b + 1] (by simp) hin (by decide +kernel)
  refine ⟨?_, hc⟩
  rw [told_in ha, told_in hb]
  unfold repL
  have e1 : byteAt ⟨#[82]⟩ ((ByteArray.mk #[82]).size - 1) = 82 := by decide +kernel
  have e2 : tkM ⟨#[82]⟩ = 0 := by decide +kernel
  have e3 : tkS ⟨#[82]⟩ = ⟨#[]⟩ := by kernel_rfl
  have e4 : natL (ByteArray.mk #[]).data.toList = [] := rfl
  rw [if_neg (by decide), nums_in_ (by simp) hin, e1, e2, e3, e4, if_pos hc]
theorem place_two {a b : Int} (ha : 0 ≤ a ∧ a ≤ 60000) (hb : 0 ≤ b ∧ b ≤ 60000) (e : Bool) : repL 4 ⟨#[63, 82]⟩ ⟨#[]⟩ [toldP a, toldP b, toldP 7] e = bytesL 4 82 63 [a + 1, b + 1, 8] ⟨#[]⟩ [] e ∧ checkP 4 82 63 [a + 1, b + 1, 8] ⟨#[]⟩ [] = 0 := by
  have hin : ∀ n ∈ [a + 1, b + 1, 8], 0 ≤ n ∧ n ≤ 65535 := fun n hn => by simp at hn; omega
  have hc := check_csi 82 63 [a + 1, b + 1, 8] (by simp) hin (by decide +kernel)
  refine ⟨?_, hc⟩
  rw [told_in ha, told_in hb, show toldP 7 = 8 from rfl]
  unfold repL
  have e1 : byteAt ⟨#[63, 82]⟩ ((ByteArray.mk #[63, 82]).size - 1) = 82 := by decide +kernel
  have e2 : tkM ⟨#[63, 82]⟩ = 63 := by decide +kernel
  have e3 : tkS ⟨#[63, 82]⟩ = ⟨#[]⟩ := by kernel_rfl
  have e4 : natL (ByteArray.mk #[]).data.toList = [] := rfl
  rw [if_neg (by decide), nums_in_ (by simp) hin, e1, e2, e3, e4, if_pos hc]
theorem places_read {a b : Int} (ha : 0 ≤ a ∧ a ≤ 60000) (hb : 0 ≤ b ∧ b ≤ 60000) (e f : Bool) : feedL ps0 (repL 4 ⟨#[82]⟩ ⟨#[]⟩ [toldP a, toldP b] e ++ repL 4 ⟨#[63, 82]⟩ ⟨#[]⟩ [toldP a, toldP b, toldP 7] f) = (ps0, [⟨4, 82, 0, [a + 1, b + 1], ⟨#[]⟩, []⟩, ⟨4, 82, 63, [a + 1, b + 1, 8], ⟨#[]⟩, []⟩]) := by
  rw [(place_one ha hb e).1, (place_two ha hb f).1, feedL_append, feed_tok (place_one ha hb e).2 (by simp) e]
  dsimp only
  rw [feed_tok (place_two ha hb f).2 (by simp) f]
  rfl
theorem rep_len (k : Int) (id data : ByteArray) (ns : List Int) (e : Bool) : (repL k id data ns e).length ≤ 4290 := by
  unfold repL
  split
  · simp
  · split
    · rename_i h
      have hcd : byteAt id (id.size - 1) < 256 := byteAt_lt _ _
      have hdt : ∀ n ∈ natL data.data.toList, n < 256 := fun n hn => by
        obtain ⟨x, _, rfl⟩ := List.mem_map.1 hn
        exact UInt8.toNat_lt x
      exact bys_len (t := ⟨k, _, _, _, _, _⟩) ⟨hcd, h, hdt⟩ e
    · simp
theorem rep_lt (k : Int) (id data : ByteArray) (ns : List Int) (e : Bool) : ∀ n ∈ repL k id data ns e, n < 256 := by
  intro n hn
  unfold repL at hn
  split at hn
  · cases hn
  · split at hn
    · rename_i h
      have hcd : byteAt id (id.size - 1) < 256 := byteAt_lt _ _
      have hdt : ∀ n ∈ natL data.data.toList, n < 256 := fun n hn => by
        obtain ⟨x, _, rfl⟩ := List.mem_map.1 hn
        exact UInt8.toNat_lt x
      exact bys_lt (t := ⟨k, _, _, _, _, _⟩) ⟨hcd, h, hdt⟩ e n hn
    · cases hn
/-- Two tokens of a list of one's own. -/
theorem two_toks {W : World} {base n : Nat} {A : Option Addr} {t u : Tok} (h : OTks W base (.slice A 2 n) [t, u]) : ∃ g P p D d Q q E f, A = some ⟨g, 0, none⟩ ∧ (RInts W P t.ps ∧ RByt W D t.dt ∧ RInts W Q u.ps ∧ RByt W E u.dt) ∧
    (W.cell? ⟨g, 0, none⟩ = some (.int .i64 t.kd) ∧ W.cell? ⟨g, 1, none⟩ = some (.int .u8 (t.cd : Int)) ∧ W.cell? ⟨g, 2, none⟩ = some (.int .u8 (t.mr : Int)) ∧ W.cell? ⟨g, 3, none⟩ = some (.slice P t.ps.length p) ∧ W.cell? ⟨g, 4, none⟩ = some (.string t.it) ∧ W.cell? ⟨g, 5, none⟩ = some (.slice D t.dt.length d)) ∧
    (W.cell? ⟨g, 6, none⟩ = some (.int .i64 u.kd) ∧ W.cell? ⟨g, 7, none⟩ = some (.int .u8 (u.cd : Int)) ∧ W.cell? ⟨g, 8, none⟩ = some (.int .u8 (u.mr : Int)) ∧ W.cell? ⟨g, 9, none⟩ = some (.slice Q u.ps.length q) ∧ W.cell? ⟨g, 10, none⟩ = some (.string u.it) ∧ W.cell? ⟨g, 11, none⟩ = some (.slice E u.dt.length f)) := by
  obtain ⟨xs, h1, h2⟩ := h
  obtain ⟨g, cap, e, _⟩ := h1.form (by simp)
  cases e
  match xs, h2 with
  | [x, y], ⟨⟨P, p, D, d, e1, q1, q2⟩, ⟨Q, q, E, f, e2, q3, q4⟩, _⟩ =>
    cases e1; cases e2
    have c := fun j hj => h1.cellAt j hj
    exact ⟨g, P, p, D, d, Q, q, E, f, rfl, ⟨OInts.reads q1, OByt.reads q2, OInts.reads q3, OByt.reads q4⟩, ⟨c 0 (by decide), c 1 (by decide), c 2 (by decide), c 3 (by decide), c 4 (by decide), c 5 (by decide)⟩, ⟨c 6 (by decide), c 7 (by decide), c 8 (by decide), c 9 (by decide), c 10 (by decide), c 11 (by decide)⟩⟩
end Go.Proofs.YtigaaidacndeiaaGreatDoor

/-
  Tokens that can be, one behind the other.
-/
import Derived.Test.YtpiliicphoacfaaDoorPrfV
import Derived.Test.YtpiliicphoacfaaDoorTokL
namespace Go.Proofs.YtpiliicphoacfaaDoor
open Go Go.RowKit
set_option maxRecDepth 100000

def okB (t : Tok) : Bool := decide (checkP t.kd t.cd t.mr t.ps t.it t.dt = 0)
def gsT (l : List Tok) (k : Nat) : List Tok := (l.take k).filter okB
theorem gsT_yes {l : List Tok} {k : Nat} (h : k < l.length) (ho : okB l[k] = true) : gsT l (k + 1) = gsT l k ++ [l[k]] := by
  unfold gsT
  rw [List.take_succ_eq_append_getElem h, List.filter_append]
  simp [ho]
theorem gsT_no {l : List Tok} {k : Nat} (h : k < l.length) (ho : okB l[k] = false) : gsT l (k + 1) = gsT l k := by
  unfold gsT
  rw [List.take_succ_eq_append_getElem h, List.filter_append]
  simp [ho]
theorem gsT_len (l : List Tok) (k : Nat) : (gsT l k).length ≤ k := by
  unfold gsT
  have h1 := List.length_filter_le okB (l.take k)
  have h2 : (l.take k).length ≤ k := by rw [List.length_take]; omega
  omega
theorem gsT_can {l : List Tok} (h : ∀ t ∈ l, t.cd < 256 ∧ ∀ n ∈ t.dt, n < 256) (k : Nat) : ∀ t ∈ gsT l k, t.can := by
  intro t ht
  unfold gsT at ht
  obtain ⟨h1, h2⟩ := List.mem_filter.1 ht
  have h3 := h t (List.mem_of_mem_take h1)
  exact ⟨h3.1, of_decide_eq_true h2, h3.2⟩
theorem can_szs {t : Tok} (h : t.can) : t.szs := by
  obtain ⟨_, _, _, h4, _⟩ := check_zero h.2.1
  show t.ps.length ≤ maxLen
  unfold maxLen; omega
def gsB (l : List Tok) (k : Nat) (e : Bool) : List Nat := (gsT l k).flatMap fun t => t.bys e
theorem gsB_yes {l : List Tok} {k : Nat} (h : k < l.length) (ho : okB l[k] = true) (e : Bool) : gsB l (k + 1) e = gsB l k e ++ l[k].bys e := by
  unfold gsB
  rw [gsT_yes h ho, List.flatMap_append, List.flatMap_singleton]
theorem gsB_len {l : List Tok} (h : ∀ t ∈ l, t.cd < 256 ∧ ∀ n ∈ t.dt, n < 256) (k : Nat) (e : Bool) : (gsB l k e).length ≤ k * 4290 := by
  have h1 := flat_len e (gsT l k) (gsT_can h k)
  have h2 := Nat.mul_le_mul_right 4290 (gsT_len l k)
  unfold gsB
  omega
theorem gsB_lt {l : List Tok} (h : ∀ t ∈ l, t.cd < 256 ∧ ∀ n ∈ t.dt, n < 256) (k : Nat) (e : Bool) : ∀ n ∈ gsB l k e, n < 256 := by
  intro n hn
  unfold gsB at hn
  obtain ⟨t, ht, hn⟩ := List.mem_flatMap.1 hn
  exact bys_lt (gsT_can h k t ht) e n hn
theorem own_apartV {w : World} {b1 b2 s1 s2 n1 n2 : Nat} {T1 T2 : TypeId} {v1 v2 : Value} {x1 x2 : List Value} (h1 : w.ownsRow b1 T1 s1 v1 n1 x1) (h2 : w.ownsRow b2 T2 s2 v2 n2 x2) (hT : T1 ≠ T2) : v1.ownBlock = none ∨ v1.ownBlock ≠ v2.ownBlock := by
  rcases hk : v1.ownBlock with _ | k
  · exact .inl rfl
  · right
    intro e
    rcases h2.2 with ⟨rfl, _⟩ | ⟨g1, cap, cur, rfl, _, hg, _⟩
    · cases e
    · obtain rfl : k = g1 := by simpa [Value.ownBlock] using e
      exact own_ty h1 hg hT hk
/-- What is kept from token to token. -/
structure BkW (w1 : World) (l : List Tok) (eight : Bool) (k : Nat) (va vb : Value) (W : World) : Prop where
  a : W.ownsRow w1.heap.size 5 1 va (gsB l k eight).length (u8s (gsB l k eight))
  b : ∃ xs : List (Array Value), W.ownsRow w1.heap.size 31 6 vb (gsT l k).length (xs.flatMap Array.toList) ∧ RTl w1 xs (gsT l k)
  bel : Below w1.heap.size w1 W
theorem BkW.start (w1 : World) (l : List Tok) (eight : Bool) : BkW w1 l eight 0 (.slice none 0 0) (.slice none 0 0) w1 :=
  ⟨World.ownsRow_nil _ _ _ _, ⟨[], World.ownsRow_nil _ _ _ _, trivial⟩, Below.refl _ _⟩
theorem BkW.next {w1 W W' : World} {l : List Tok} {eight : Bool} {k : Nat} {va vb : Value} (h : BkW w1 l eight k va vb W) (hb : Below W.heap.size W W') : BkW w1 l eight k va vb W' := by
  obtain ⟨xs, h1, h2⟩ := h.b
  exact ⟨own_more h.a hb, ⟨xs, own_more h1 hb, h2⟩, h.bel.trans (hb.mono h.bel.size)⟩
theorem BkW.skip {w1 W : World} {l : List Tok} {eight : Bool} {k : Nat} {va vb : Value} (h : BkW w1 l eight k va vb W) (hk : k < l.length) (ho : okB l[k] = false) : BkW w1 l eight (k + 1) va vb W := by
  have e1 := gsT_no hk ho
  have e2 : gsB l (k + 1) eight = gsB l k eight := by unfold gsB; rw [e1]
  exact ⟨by rw [e2]; exact h.a, by rw [e1]; exact h.b, h.bel⟩
/-- .. where its bytes stand there already. -/
structure BkM (w1 : World) (l : List Tok) (eight : Bool) (k : Nat) (va vb : Value) (W : World) : Prop where
  a : W.ownsRow w1.heap.size 5 1 va (gsB l (k + 1) eight).length (u8s (gsB l (k + 1) eight))
  b : ∃ xs : List (Array Value), W.ownsRow w1.heap.size 31 6 vb (gsT l k).length (xs.flatMap Array.toList) ∧ RTl w1 xs (gsT l k)
  bel : Below w1.heap.size w1 W
theorem BkM.next {w1 W W' : World} {l : List Tok} {eight : Bool} {k : Nat} {va vb : Value} (h : BkM w1 l eight k va vb W) (hb : Below W.heap.size W W') : BkM w1 l eight k va vb W' := by
  obtain ⟨xs, h1, h2⟩ := h.b
  exact ⟨own_more h.a hb, ⟨xs, own_more h1 hb, h2⟩, h.bel.trans (hb.mono h.bel.size)⟩
theorem BkW.mid {w1 W W1 : World} {l : List Tok} {eight : Bool} {k n1 : Nat} {va vb va' : Value} {x1 : List Value} (h : BkW w1 l eight k va vb W) (e1 : n1 = (gsB l (k + 1) eight).length) (z1 : x1 = u8s (gsB l (k + 1) eight))
    (o1 : W1.ownsRow w1.heap.size 5 1 va' n1 x1) (g1 : W.grownBy W1 va.ownBlock) : BkM w1 l eight k va' vb W1 := by
  subst e1 z1
  obtain ⟨xs, h1, h2⟩ := h.b
  exact ⟨o1, ⟨xs, World.ownsRow.kept (row := va.ownBlock) h1 g1 (own_apartV h1 h.a (by decide)), h2⟩, below_row h.bel g1 (own_ge h.a) h.bel.size⟩
theorem BkM.push {w1 W W1 : World} {l : List Tok} {eight : Bool} {k n2 : Nat} {va vb vb' : Value} {xs : List (Array Value)} {x2 : List Value} {X : Array Value} (h : BkM w1 l eight k va vb W) (hk : k < l.length) (ho : okB l[k] = true) (h1 : W.ownsRow w1.heap.size 31 6 vb (gsT l k).length (xs.flatMap Array.toList)) (h2 : RTl w1 xs (gsT l k))
    (hX : ∃ A c B d, X = l[k].cs A c B d ∧ RInts w1 A l[k].ps ∧ RByt w1 B l[k].dt) (e2 : n2 = (gsT l k).length + 1) (z2 : x2 = xs.flatMap Array.toList ++ X.toList)
    (o2 : W1.ownsRow w1.heap.size 31 6 vb' n2 x2) (g2 : W.grownBy W1 vb.ownBlock) : BkW w1 l eight (k + 1) va vb' W1 := by
  subst e2 z2
  refine ⟨World.ownsRow.kept (row := vb.ownBlock) h.a g2 (own_apartV h.a h1 (by decide)), ⟨xs ++ [X], ?_, ?_⟩, below_row h.bel g2 (own_ge h1) h.bel.size⟩
  · rw [gsT_yes hk ho, List.length_append, List.flatMap_append, List.flatMap_singleton]
    exact o2
  · rw [gsT_yes hk ho]
    exact RTl.snoc hX h2
end Go.Proofs.YtpiliicphoacfaaDoor

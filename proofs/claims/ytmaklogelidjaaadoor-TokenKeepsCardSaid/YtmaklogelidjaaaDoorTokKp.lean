/-
  What stands beside what is turned: for TokenKeeps.
-/
import Derived.Test.YtmaklogelidjaaaDoorTokZ
import Derived.Test.YtmaklogelidjaaaDoorTokY
import Derived.Test.YtmaklogelidjaaaDoorTokU
namespace Go.Proofs.YtmaklogelidjaaaDoor
open Go Go.RowKit

/-- A slice's block. -/
def bkA : Option Addr → List Nat
  | some ad => [ad.block]
  | none => []
theorem own_bk {w : World} {base n c : Nat} {e : TypeId} {A : Option Addr} {xs : List Value} (h : w.ownsRow base e 1 (.slice A n c) n xs) : ∀ k ∈ bkA A, base ≤ k ∧ k < w.heap.size ∧ ∃ cur fz, w.heap[k]? = some (.cells cur e fz) := by
  intro k hk
  rcases h.2 with ⟨hv, _⟩ | ⟨g, cap, cur, hv, hb, hg, _⟩
  · simp only [Value.slice.injEq] at hv
    rw [hv.1] at hk
    cases hk
  · simp only [Value.slice.injEq] at hv
    rw [hv.1] at hk
    obtain rfl : k = g := by simpa [bkA] using hk
    refine ⟨hb, ?_, cur, _, hg⟩
    rcases Nat.lt_or_ge k w.heap.size with h | h
    · exact h
    · rw [Array.getElem?_eq_none h] at hg; cases hg
theorem own_only {w W : World} {S : List Nat} {base n c : Nat} {e : TypeId} {A : Option Addr} {xs : List Value} (h : w.ownsRow base e 1 (.slice A n c) n xs) (ho : Only S w W) (hS : ∀ k ∈ bkA A, k ∉ S) : W.ownsRow base e 1 (.slice A n c) n xs := by
  refine ⟨h.1, ?_⟩
  have hbk := own_bk h
  rcases h.2 with h | ⟨g, cap, cur, hv, hb, hg, r⟩
  · exact .inl h
  · simp only [Value.slice.injEq] at hv
    have hm : g ∈ bkA A := by rw [hv.1]; simp [bkA]
    exact .inr ⟨g, cap, cur, by simp only [Value.slice.injEq, true_and]; exact ⟨hv.1, hv.2.2⟩, hb, (ho.block g (hbk g hm).2.1 (hS g hm)).trans hg, r⟩
theorem own_max {w : World} {base n c : Nat} {e : TypeId} {A : Option Addr} {xs : List Value} (h : w.ownsRow base e 1 (.slice A n c) n xs) : n ≤ 9223372036854775807 := by
  rcases h.2 with ⟨hv, h0⟩ | ⟨g, cap, cur, hv, hb, hg, hnc, hcm, _⟩
  · omega
  · unfold maxLen at hcm; omega
theorem own_unlike {w : World} {b1 b2 n1 c1 n2 c2 : Nat} {e1 e2 : TypeId} {A1 A2 : Option Addr} {xs1 xs2 : List Value} (h1 : w.ownsRow b1 e1 1 (.slice A1 n1 c1) n1 xs1) (h2 : w.ownsRow b2 e2 1 (.slice A2 n2 c2) n2 xs2) (he : e1 ≠ e2) : ∀ k ∈ bkA A1, k ∉ bkA A2 := by
  intro k hk hk2
  obtain ⟨_, _, cur, fz, e⟩ := own_bk h1 k hk
  obtain ⟨_, _, cur2, fz2, e'⟩ := own_bk h2 k hk2
  rw [e] at e'
  injection e' with e'
  injection e' with _ e' _
  exact he e'
/-- A slice of ints that is turned in its place. -/
structure LP (kd : IntKind) (T : TypeId) (B : Nat) (A : Option Addr) (n c : Nat) (W0 W : World) : Prop where
  own : ∃ zs : List Int, W.ownsRow B T 1 (.slice A n c) n (zs.map (Value.int kd))
  only : Only (bkA A) W0 W
theorem LP.step {kd : IntKind} {T : TypeId} {B n c : Nat} {A : Option Addr} {W0 W : World} (h : LP kd T B A n c W0 W) {k : Nat} (hk : k < n) :
    ∃ g z, A = some ⟨g, 0, none⟩ ∧ W.cell? ⟨g, k, none⟩ = some (.int kd z) ∧ W.frozen? ⟨g, k, none⟩ = false ∧ ∀ z', LP kd T B A n c W0 (W.setCell ⟨g, k, none⟩ (.int kd z')) := by
  obtain ⟨zs, ho⟩ := h.own
  have hlen : zs.length = n := by have := ho.1; simpa using this
  obtain ⟨g, cap, hv⟩ : ∃ g cap, (Value.slice A n c) = .slice (some ⟨g, 0, none⟩) n cap := by
    rcases ho.2 with ⟨_, h0⟩ | ⟨g, cap, _, hv, _⟩
    · omega
    · exact ⟨g, cap, hv⟩
  simp only [Value.slice.injEq, true_and] at hv
  obtain ⟨rfl, rfl⟩ := hv
  refine ⟨g, zs[k], rfl, ?_, ho.frozenAt k, fun z' => ⟨⟨zs.set k z', ?_⟩, ?_⟩⟩
  · rw [ho.cellAt k (by omega)]
    simp [hlen, hk]
  · have := (ho.stored k (.int kd z')).1
    rw [List.map_set]
    exact this
  · have hg := (ho.stored k (.int kd z')).2
    exact ⟨hg.os.trans h.only.os, hg.tape.trans h.only.tape, hg.output.trans h.only.output, Nat.le_trans h.only.size hg.size, fun j hj hS => (hg.block j (Nat.lt_of_lt_of_le hj h.only.size) (by
      intro e
      have e2 : j = g := Option.some.inj e
      exact hS (by simp [bkA, e2]))).trans (h.only.block j hj hS)⟩
theorem add_cellZ (g j : Nat) : (⟨g, 0, none⟩ : Addr).add j = ⟨g, j, none⟩ := by unfold Addr.add; split <;> simp_all
theorem unsm_of {ks : Kinds} {ops : Array Oper} {b i : Nat} (h : (ks.all fun x => match x.2 with | .smear _ => dep ops x.1 i | _ => true) = true) : unsmeared ks ops b i = true := by
  unfold unsmeared
  rw [List.all_eq_true] at h ⊢
  intro x hx
  have := h x hx
  obtain ⟨j, kd⟩ := x
  cases kd with
  | smear b' => simp only at this ⊢; rw [this]; simp
  | _ => rfl
/-- A slice of one, just made. -/
def OneP (u : Value) : Prop := ∃ g, u = .slice (some ⟨g, 0, none⟩) 1 1
def OneF (T : TypeId) (B : Nat) (x : Value) (u : Value) (W : World) : Prop := ∃ g, u = .slice (some ⟨g, 0, none⟩) 1 1 ∧ B ≤ g ∧ Blk W g T #[x]
theorem one_stab (ks : Kinds) (wr : World) (T : TypeId) (x : Value) (h : boxes ks = []) : ∀ v w w', Kept ks wr w w' → OneF T wr.heap.size x v w → OneF T wr.heap.size x v w' := by
  rintro v w w' hk ⟨g, e, hg, hb⟩
  exact ⟨g, e, hg, (hk.block g hb.lt hg (fun _ _ _ _ => by rw [h]; simp)).trans hb⟩
/-- A slice that is not nil. -/
def SlgP (u : Value) : Prop := ∃ g n c, u = .slice (some ⟨g, 0, none⟩) n c
theorem own_ways {w : World} {base n c : Nat} {e : TypeId} {A : Option Addr} {xs : List Value} (h : w.ownsRow base e 1 (.slice A n c) n xs) : A = none ∨ ∃ g, A = some ⟨g, 0, none⟩ ∧ base ≤ g ∧ g < w.heap.size := by
  rcases h.2 with ⟨hv, _⟩ | ⟨g, cap, cur, hv, hb, hg, _⟩
  · simp only [Value.slice.injEq] at hv
    exact .inl hv.1
  · simp only [Value.slice.injEq] at hv
    exact .inr ⟨g, hv.1, (own_bk h g (by rw [hv.1]; simp [bkA])).1, (own_bk h g (by rw [hv.1]; simp [bkA])).2.1⟩
theorem own_eqs {w w' : World} {base n c : Nat} {e : TypeId} {A : Option Addr} {xs : List Value} (h : w.ownsRow base e 1 (.slice A n c) n xs) (hk : ∀ k ∈ bkA A, w'.heap[k]? = w.heap[k]?) : w'.ownsRow base e 1 (.slice A n c) n xs := by
  refine ⟨h.1, ?_⟩
  rcases h.2 with h | ⟨g, cap, cur, hv, hb, hg, r⟩
  · exact .inl h
  · simp only [Value.slice.injEq] at hv
    exact .inr ⟨g, cap, cur, by simp only [Value.slice.injEq, true_and]; exact ⟨hv.1, hv.2.2⟩, hb, (hk g (by rw [hv.1]; simp [bkA])).trans hg, r⟩
/-- A block of six cells, by its shape. -/
theorem shp_blk {w w' : World} {g : Nat} {T : TypeId} {v0 v1 v2 v3 v4 v5 : Value} (h : Blk w g T #[v0, v1, v2, v3, v4, v5]) (hs : shp w'.heap[g]? = shp w.heap[g]?) : ∃ cs : Array Value, cs.size = 6 ∧ Blk w' g T cs := by
  unfold Blk at h
  rw [h] at hs
  unfold shp at hs
  split at hs
  · rename_i cs T' fz e
    simp only [Option.some.injEq, Prod.mk.injEq] at hs
    obtain ⟨h1, rfl, rfl⟩ := hs
    exact ⟨cs, h1, e⟩
  · cases hs
theorem shp_set {w : World} {g i : Nat} {T : TypeId} {cs : Array Value} (h : Blk w g T cs) (u : Value) : shp (w.setCell ⟨g, i, none⟩ u).heap[g]? = shp w.heap[g]? := by
  have h2 := h.set_ i u
  unfold Blk at h h2
  rw [h, h2]
  simp [shp]
theorem set_grown {w : World} {g i : Nat} (u : Value) : w.grownBy (w.setCell ⟨g, i, none⟩ u) (some g) :=
  ⟨rfl, rfl, rfl, by simp [World.setCell], fun k _ hk => Below.heap_setCell w _ u k (by
    intro e; exact hk (by rw [e]))⟩
theorem bytes_both {w w' : World} {e : Ending} {k : Int} {c m : Nat} {ps : List Int} {s : ByteArray} {dt : List Nat} {eight : Bool} (h : BytesR w w' e k c m ps s dt eight) :
    ∃ v z, e = .returned (.tuple #[v, .int .i64 z]) ∧ OByt w' w.heap.size v (if checkP k c m ps s dt = 0 then bytesL k c m ps s dt eight else []) := by
  rcases h with ⟨hq, rfl⟩ | ⟨hq, v, rfl, hv⟩
  · refine ⟨_, _, rfl, ?_⟩
    rw [if_neg hq]
    exact obyt_nil _ _
  · refine ⟨v, 0, rfl, ?_⟩
    rw [if_pos hq]
    exact own_base (obyt_own hv) (Nat.le_succ _)
end Go.Proofs.YtmaklogelidjaaaDoor

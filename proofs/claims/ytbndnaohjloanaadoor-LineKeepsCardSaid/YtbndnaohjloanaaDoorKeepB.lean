/-
  Lists of cells in memory of their own, each apart from the others: what a step within one of them leaves alone; what an append leaves of the slice that it grows.
-/
import Derived.Test.YtbndnaohjloanaaDoorKeepA
import Derived.ArgAppend
import Derived.Lib.ConvBytes
namespace Go.Proofs.YtbndnaohjloanaaDoor

open Go Go.RowKit

section

variable {P : Program} (w : World)

theorem run_append_old (base : Nat) (t ty e : TypeId) (i : TypeInfo) (z : Value) (size bytes : Nat) (ht : P.underlying t = some (.slice e)) (hi : P.info? e = some i) (hz : i.zero = some z)
    (hsize : i.size = size) (hby : i.bytes = bytes) (hzs : z.cells.size = size) (hsz : 0 < size)
    (v : Value) (n : Nat) (xs : List Value) (hown : w.ownsRow base e size v n xs)
    (a : Addr) (m c : Nat) (news : List Value) (hl : news.length = m * size) (hnews : ∀ j u, news[j]? = some u → w.cell? (a.add j) = some u) (h1 : ∀ u ∈ news, u.oneCell' = true)
    (h63 : n + m ≤ maxLen) (hbytes : (n + m) * bytes ≤ 140737488355328) (hbase : base ≤ w.heap.size) :
    ∃ u w', (Builtin.append_ #[t, t] ty #[v, .slice (some a) m c]).run P w = .ok u w' ∧ w'.ownsRow base e size u (n + m) (xs ++ news) ∧ w'.ownsRow base e size v n xs ∧ w.grownBy w' v.ownBlock ∧
      (u.ownBlock = v.ownBlock ∨ ∃ gu, u.ownBlock = some gu ∧ w.heap.size ≤ gu) := by
  have hown0 := hown
  rcases hown.2 with ⟨rfl, h0⟩ | ⟨g, cap, cur, rfl, hbg, hg, hnc, hcm, hcs, htake⟩
  · obtain ⟨v', w', hrun, h2, h3, _, h5⟩ := run_append_own_at (P := P) w base t ty e i z size bytes ht hi hz hsize hby hzs hsz _ n xs hown0 a m c news hl hnews h1 h63 hbytes hbase
    exact ⟨v', w', hrun, h2, ⟨hown0.1, .inl ⟨rfl, h0⟩⟩, h3, h5.imp id fun h => ⟨_, h, Nat.le_refl _⟩⟩
  · by_cases hroom : n + m ≤ cap
    · obtain ⟨w', hr, ho', hgr⟩ := run_append_fits (P := P) w base t ty e i size ht hi hsize g n cap xs hown0 a m c news hl hnews h1 hroom
      refine ⟨_, w', hr, ho', ?_, hgr, .inl rfl⟩
      rcases ho'.2 with ⟨h, _⟩ | ⟨g3, cap3, cur3, h, _, hg3, _, _, hs3, ht3⟩
      · simp at h
      · simp only [Value.slice.injEq, Option.some.injEq, Addr.mk.injEq, and_true, true_and] at h
        obtain ⟨rfl, rfl⟩ := h
        refine ⟨hown0.1, .inr ⟨g, cap, cur3, rfl, hbg, hg3, hnc, hcm, hs3, ?_⟩⟩
        have hle : n * size ≤ (n + m) * size := Nat.mul_le_mul_right _ (by omega)
        have q1 : cur3.toList.take (n * size) = (xs ++ news).take (n * size) := by rw [← ht3, List.take_take, Nat.min_eq_left hle]
        rw [q1, List.take_append_of_le_length (by rw [hown0.1]; exact Nat.le_refl _), List.take_of_length_le (by rw [hown0.1]; exact Nat.le_refl _)]
    · obtain ⟨u, w', hr, ho', hgr⟩ := run_append_arg_grows (P := P) w t ty e i z size bytes ht hi hz hsize hby hzs hsz ⟨g, 0, none⟩ n cap xs hown0.1 (fun j u hu => by
          have hj : j < n * size := by
            have := (List.getElem?_eq_some_iff.1 hu).1
            rw [hown0.1] at this; exact this
          have := World.ownsRow.cellAt hown0 j hj
          have ha : (⟨g, 0, none⟩ : Addr).add j = ⟨g, j, none⟩ := by unfold Addr.add; split <;> simp_all
          rw [ha, this, hu]) a m c news hl hnews (by omega) h63 hbytes
      have hb : Below w.heap.size w w' := ⟨hgr.os, hgr.tape, hgr.output, hgr.size, fun k hk => hgr.block k hk (by simp)⟩
      refine ⟨u, w', hr, ?_, World.ownsRow.kept (row := none) hown0 hgr (.inr (by simp [Value.ownBlock])), ⟨hgr.os, hgr.tape, hgr.output, hgr.size, fun k hk _ => hgr.block k hk (by simp)⟩, ?_⟩
      · refine ⟨ho'.1, ?_⟩
        rcases ho'.2 with h | ⟨g3, cap3, cur3, h, hb3, r⟩
        · exact .inl h
        · exact .inr ⟨g3, cap3, cur3, h, Nat.le_trans hbase hb3, r⟩
      · rcases ho'.2 with ⟨rfl, h0⟩ | ⟨g3, cap3, cur3, rfl, hb3, r⟩
        · omega
        · exact .inr ⟨g3, rfl, hb3⟩
theorem wpList_append_old {W : World} {ops : Array Oper} {rest : List Oper} {o : Oper} {a : Act} {Q : Exit → Act → World → Prop} (hgd : o.guard = none) (s x : Operand) (t : TypeId)
    (ho : o.op = .call { callee := .builtin .append, args := #[s, x], argTypes := #[t, t] })
    (base : Nat) (e : TypeId) (i : TypeInfo) (z : Value) (size bytes : Nat) (ht : P.underlying t = some (.slice e)) (hi : P.info? e = some i) (hz : i.zero = some z)
    (hsize : i.size = size) (hby : i.bytes = bytes) (hzs : z.cells.size = size) (hsz : 0 < size)
    (v : Value) (n : Nat) (xs : List Value) (hs : a.eval s = v) (hown : W.ownsRow base e size v n xs)
    (ad : Addr) (m c : Nat) (news : List Value) (hx : a.eval x = .slice (some ad) m c) (hl : news.length = m * size) (hnews : ∀ j u, news[j]? = some u → W.cell? (ad.add j) = some u) (h1 : ∀ u ∈ news, u.oneCell' = true)
    (h63 : n + m ≤ maxLen) (hbytes : (n + m) * bytes ≤ 140737488355328) (hbase : base ≤ W.heap.size)
    (h : ∀ u w', w'.ownsRow base e size u (n + m) (xs ++ news) → w'.ownsRow base e size v n xs → W.grownBy w' v.ownBlock → (u.ownBlock = v.ownBlock ∨ ∃ gu, u.ownBlock = some gu ∧ W.heap.size ≤ gu) → wpList P ops Q rest (a.put o.dst u) w') : wpList P ops Q (o :: rest) a W :=
  wpList_plain hgd fun _ hK => by
    obtain ⟨u, w', hrun, h2, h3, h4, h5⟩ := run_append_old (P := P) W base t o.type e i z size bytes ht hi hz hsize hby hzs hsz v n xs hown ad m c news hl hnews h1 h63 hbytes hbase
    unfold Oper.wp execOp
    simp only [ho, resolve, invoke, builtin, Sem.run_bind, Sem.run_pure, Result.andThen_ok, List.map_toArray, List.map_cons, List.map_nil, hs, hx, hrun]
    exact hK _ _ (h u w' h2 h3 h4 h5)
end

/-- Lists in memory of their own, each apart from the others and from what holds them. -/
structure LS (W : World) (b : Nat) (A : Option Addr) (vs : List Value) (Ls : List (List Cl)) : Prop where
  len : vs.length = Ls.length
  outer : Reads W W.heap.size 1 A vs.length vs
  own : ∀ (i : Nat) (v : Value) (L : List Cl), vs[i]? = some v → Ls[i]? = some L → OCells W b v L
  apart : ∀ (i j : Nat) (v u : Value) (a : Nat), i ≠ j → vs[i]? = some v → vs[j]? = some u → v.ownBlock = some a → u.ownBlock ≠ some a
  far : ∀ (ad : Addr) (i : Nat) (v : Value), A = some ad → vs[i]? = some v → v.ownBlock ≠ some ad.block
theorem LS.step {W W' : World} {b : Nat} {A : Option Addr} {vs : List Value} {Ls : List (List Cl)} (h : LS W b A vs Ls) {i : Nat} {v : Value} (hv : vs[i]? = some v) {L' : List Cl} (hg : W.grownBy W' v.ownBlock) (ho : OCells W' b v L') : LS W' b A vs (Ls.set i L') := by
  refine ⟨by rw [List.length_set]; exact h.len, ⟨h.outer.1, fun hp => ?_⟩, fun j u L hj hL => ?_, h.apart, h.far⟩
  · obtain ⟨ad, e, hlt, hc⟩ := h.outer.2 hp
    refine ⟨ad, e, Nat.lt_of_lt_of_le hlt hg.size, fun j u hu => ?_⟩
    have hb : (ad.add j).block = ad.block := block_of_add ad j
    rw [← hc j u hu]
    unfold World.cell?
    rw [hb, hg.block ad.block hlt (fun e2 => h.far ad i v e hv e2.symm)]
  · by_cases hij : i = j
    · subst hij
      rw [hv] at hj
      obtain rfl := Option.some.inj hj
      have hlt : i < Ls.length := by
        have := (List.getElem?_eq_some_iff.1 hL).1
        rw [List.length_set] at this; exact this
      rw [List.getElem?_set_self hlt] at hL
      obtain rfl := Option.some.inj hL
      exact ho
    · rw [List.getElem?_set_ne hij] at hL
      refine World.ownsRow.kept (row := v.ownBlock) (h.own j u L hj hL) hg ?_
      cases hq : v.ownBlock with
      | none => cases hu : u.ownBlock with
        | none => exact .inl rfl
        | some a => exact .inr (by simp)
      | some a => exact .inr (h.apart i j v u a hij hv hj hq)
theorem LS.same {W W' : World} {b : Nat} {A : Option Addr} {vs : List Value} {Ls : List (List Cl)} (h : LS W b A vs Ls) {i : Nat} {v : Value} {L : List Cl} (hv : vs[i]? = some v) (hL : Ls[i]? = some L) (hg : W.grownBy W' v.ownBlock) (ho : OCells W' b v L) : LS W' b A vs Ls := by
  have := h.step hv hg ho
  have e : Ls.set i L = Ls := by
    obtain ⟨h1, h2⟩ := List.getElem?_eq_some_iff.1 hL
    rw [← h2]; exact List.set_getElem_self h1
  rwa [e] at this
theorem LS.next {W W' : World} {b : Nat} {A : Option Addr} {vs : List Value} {Ls : List (List Cl)} (h : LS W b A vs Ls) (hb : Below W.heap.size W W') : LS W' b A vs Ls :=
  ⟨h.len, (Reads.below h.outer hb).more hb.size, fun i v L hv hL => (h.own i v L hv hL).next hb, h.apart, h.far⟩
theorem LS.below {W W' : World} {b : Nat} {A : Option Addr} {vs : List Value} {Ls : List (List Cl)} (h : LS W b A vs Ls) {i : Nat} {v : Value} {L : List Cl} (hv : vs[i]? = some v) (hL : Ls[i]? = some L) {w : World} (hb : Below b w W) (hbw : b ≤ w.heap.size) (hg : W.grownBy W' v.ownBlock) : Below b w W' :=
  hb.grown hg (Nat.le_trans hbw hb.size) (fun k hk => (World.ownsRow.lt (show W.ownsRow b _ 3 v L.length _ from h.own i v L hv hL) k hk).1)
end Go.Proofs.YtbndnaohjloanaaDoor

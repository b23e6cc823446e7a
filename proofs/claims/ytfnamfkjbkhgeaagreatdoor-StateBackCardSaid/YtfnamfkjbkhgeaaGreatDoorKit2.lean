/-
  More words that the proofs of this seat share: appending to a slice of the call's own; texts.
-/
import Derived.Test.YtfnamfkjbkhgeaaGreatDoorGen
import Derived.OwnWalk
namespace Go.Proofs.YtfnamfkjbkhgeaaGreatDoor

open Go.RowKit

theorem below_own {W W1 w' : World} {base : Nat} {e : TypeId} {size n : Nat} {v : Value} {xs : List Value} (hown : W.ownsRow base e size v n xs) (hbase : base ≤ W.heap.size) (ha : Below W.heap.size W W1) (hg : W1.grownBy w' v.ownBlock) : Below base W w' :=
  (ha.mono hbase).grown hg (Nat.le_trans hbase ha.size) (fun k hk => (hown.lt k hk).1)
theorem grown_own {W W1 w' : World} {row : Option Nat} (ha : Below W.heap.size W W1) (hg : W1.grownBy w' row) : W.grownBy w' row :=
  ⟨hg.os.trans ha.os, hg.tape.trans ha.tape, hg.output.trans ha.output, Nat.le_trans ha.size hg.size, fun i hi hne => (hg.block i (Nat.lt_of_lt_of_le hi ha.size) hne).trans (ha.block i hi)⟩

/-- One element more, at the end of a slice of the call's own. -/
theorem wpList_push {P : Program} {ops : Array Oper} {rest : List Oper} {o : Oper} {a : Act} {Q : Exit → Act → World → Prop} {W : World} (hgd : o.guard = none) (s x : Operand) (t : TypeId)
    (ho : o.op = .call { callee := .builtin .append, args := #[s, x], argTypes := #[t, t] })
    (base : Nat) (e : TypeId) (z : Value) (bytes : Nat) (ht : P.underlying t = some (.slice e)) (hinfo : (P.info? e).map (fun i => (i.zero, i.size, i.bytes)) = some (some z, 1, bytes)) (hzs : z.cells.size = 1)
    (v : Value) (n : Nat) (xs : List Value) (hs : a.eval s = v) (hown : W.ownsRow base e 1 v n xs)
    (u : Value) (hu : u.oneCell' = true) (T : TypeId) (g c : Nat) (hg : g = W.heap.size) (hx : a.eval x = .slice (some ⟨g, 0, none⟩) 1 c)
    (h63 : n + 1 ≤ maxLen) (hbytes : (n + 1) * bytes ≤ 140737488355328) (hbase : base ≤ W.heap.size)
    (h : ∀ v' w', w'.ownsRow base e 1 v' (n + 1) (xs ++ [u]) → W.grownBy w' v.ownBlock → Below base W w' → wpList P ops Q rest (a.put o.dst v') w') : wpList P ops Q (o :: rest) a (W.alloc (.cells #[u] T)) := by
  obtain ⟨i, hi, hz, hsize, hby⟩ := info_parts hinfo
  have hB : Below W.heap.size W (W.alloc (.cells #[u] T)) := (Below.refl _ _).alloc (Nat.le_refl _) _
  refine wpList_append_own _ hgd s x t ho base e i z 1 bytes ht hi hz hsize hby hzs (by decide) v n xs hs (hown.alloc _) ⟨g, 0, none⟩ 1 c [u] hx rfl (fun j u' hj => ?_) (fun u' hu' => ?_) h63 hbytes (Nat.le_trans hbase hB.size) (fun v' w' h2 h3 _ => h v' w' h2 (grown_own hB h3) (below_own hown hbase hB h3))
  · subst hg
    have hadd : (⟨W.heap.size, 0, none⟩ : Addr).add j = ⟨W.heap.size, j, none⟩ := by unfold Addr.add; split <;> simp_all
    rw [hadd, (Blk.new W T _).cell j]
    simpa using hj
  · obtain rfl : u' = u := by simpa using hu'
    exact hu

/-- A slice of the call's own that holds just ns. -/
def OInts (w : World) (base : Nat) (v : Value) (ns : List Int) : Prop := w.ownsRow base 3 1 v ns.length (ns.map (Value.int .i64))
theorem oints_own {w : World} {base : Nat} {v : Value} {ns : List Int} (h : OInts w base v ns) : w.ownsRow base 3 1 v ns.length (ns.map (Value.int .i64)) := h
theorem info_int : (Tryz.prog.info? 3).map (fun i => (i.zero, i.size, i.bytes)) = some (some (.int .i64 0), 1, 8) := by kernel_rfl
theorem oints_one {w : World} {t : TypeId} (ht : t = 3) (n : Int) (base g : Nat) (hb : base ≤ w.heap.size) (hg : g = w.heap.size) : OInts (w.alloc (.cells #[.int .i64 n] t)) base (.slice (some ⟨g, 0, none⟩) 1 1) [n] := by
  subst hg ht
  exact World.ownsRow_lit w #[.int .i64 n] 1 hb (by unfold maxLen; omega) rfl
theorem OInts.reads {w : World} {base : Nat} {A : Option Addr} {c : Nat} {ns : List Int} (h : OInts w base (.slice A ns.length c) ns) : RInts w A ns := Reads.of_own h
theorem own_ints {w : World} {base N : Nat} {v : Value} {ns : List Int} (h : w.ownsRow base 3 1 v N (ns.map (Value.int .i64))) : ∃ A c, v = .slice A N c ∧ N ≤ c ∧ RInts w A ns := by
  have hN : N = ns.length := by have := h.1; simp at this; omega
  subst hN
  rcases h.2 with ⟨rfl, hn⟩ | ⟨g, cap, cur, rfl, hb, hh, hc, r⟩
  · rw [hn]
    refine ⟨none, 0, rfl, Nat.le_refl _, ?_⟩
    obtain rfl := List.eq_nil_of_length_eq_zero hn
    exact Reads.none_
  · exact ⟨_, cap, rfl, hc, Reads.of_own h⟩
theorem OInts.form {w : World} {base : Nat} {v : Value} {ns : List Int} (h : OInts w base v ns) : ∃ A c, v = .slice A ns.length c := by
  rcases h.2 with ⟨rfl, hn⟩ | ⟨g, cap, _, rfl, _⟩
  · exact ⟨none, 0, by rw [hn]⟩
  · exact ⟨_, _, rfl⟩

/-- A slice of the call's own that holds just these bytes. -/
def OBytes (w : World) (base : Nat) (v : Value) (bs : List UInt8) : Prop := w.ownsRow base 5 1 v bs.length (bs.map fun b => Value.int .u8 b.toNat)
theorem info_byte : (Tryz.prog.info? 5).map (fun i => (i.zero, i.size, i.bytes)) = some (some (.int .u8 0), 1, 1) := by kernel_rfl
end Go.Proofs.YtfnamfkjbkhgeaaGreatDoor

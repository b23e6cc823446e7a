/-
  Lists of tokens that are read; a parser that is new; a whole stream.
-/
import Derived.Test.YtdmiihmaijbkfaaPrsQ
import Derived.Great.Walk
namespace Go.Proofs.Ytdmiihmaijbkfaa
open Go Go.RowKit

theorem info_ps : ∃ i, Try.prog.info? 38 = some i ∧ i.zero = some (.agg ps0.cells.toArray) ∧ i.size = 4136 := by
  have h : (Try.prog.info? 38).map (fun i => (i.zero, i.size)) = some (some (.agg ps0.cells.toArray), 4136) := by kernel_rfl
  cases hi : Try.prog.info? 38 with
  | none => rw [hi] at h; cases h
  | some i =>
    rw [hi] at h
    simp only [Option.map_some, Option.some.injEq, Prod.mk.injEq] at h
    exact ⟨i, rfl, h.1, h.2⟩
theorem run_alloc_ps (ρ : Operand → Value) (o : Oper) (ho : o.op = .alloc 38) (w : World) : (execOp ρ o).run Try.prog w = .ok (.value (.pointer (some ⟨w.heap.size, 0, none⟩))) (w.alloc (.cells ps0.cells.toArray 38)) := by
  obtain ⟨i, hi, hz, hs⟩ := info_ps
  generalize ps0.cells.toArray = C at *
  simp [execOp, ho, Instr.alloc, zeroValue, typeInfo, hi, hz, newVar, newRow, Value.cells]
theorem wpList_alloc_ps {ops : Array Oper} {rest : List Oper} {o : Oper} {a : Act} {w : World} {Q : Exit → Act → World → Prop} (hg : o.guard = none) (ho : o.op = .alloc 38)
    (h : wpList Try.prog ops Q rest (a.put o.dst (.pointer (some ⟨w.heap.size, 0, none⟩))) (w.alloc (.cells ps0.cells.toArray 38))) : wpList Try.prog ops Q (o :: rest) a w :=
  Great.wpList_runTo hg o.dst rfl _ _ (run_alloc_ps a.eval o ho w) h
theorem ps_new (w : World) : PsB (w.alloc (.cells ps0.cells.toArray 38)) w.heap.size ps0 := ⟨Blk.new w _ _, ps0_ok⟩
/-! Lists of tokens, read. -/
def RTl (w : World) : List (Array Value) → List Tok → Prop
  | [], [] => True
  | x :: xs, t :: ts => (∃ A c B d, x = t.cs A c B d ∧ RInts w A t.ps ∧ RByt w B t.dt) ∧ RTl w xs ts
  | _, _ => False
theorem RTl.next {w w' : World} (hb : Below w.heap.size w w') : ∀ {xs : List (Array Value)} {ts : List Tok}, RTl w xs ts → RTl w' xs ts
  | [], [], _ => trivial
  | _ :: _, _ :: _, h => by
    obtain ⟨⟨A, c, B, d, e, h1, h2⟩, h3⟩ := h
    exact ⟨⟨A, c, B, d, e, h1.next hb, h2.next hb⟩, RTl.next hb h3⟩
theorem RTl.of_own {w : World} {base : Nat} : ∀ {xs : List (Array Value)} {ts : List Tok}, OTl w base xs ts → RTl w xs ts
  | [], [], _ => trivial
  | _ :: _, _ :: _, h => by
    obtain ⟨⟨A, c, B, d, e, h1, h2⟩, h3⟩ := h
    injection e with e
    exact ⟨⟨A, c, B, d, e, OInts.reads h1, OByt.reads h2⟩, RTl.of_own h3⟩
def RTs (w : World) (A : Option Addr) (ts : List Tok) : Prop := ∃ xs : List (Array Value), Reads w w.heap.size 6 A ts.length (xs.flatMap Array.toList) ∧ RTl w xs ts
theorem RTs.next {w w' : World} {A : Option Addr} {ts : List Tok} (h : RTs w A ts) (hb : Below w.heap.size w w') : RTs w' A ts := by
  obtain ⟨xs, h1, h2⟩ := h
  exact ⟨xs, (Reads.below h1 hb).more hb.size, h2.next hb⟩
theorem OTks.reads {w : World} {base : Nat} {v : Value} {ts : List Tok} (h : OTks w base v ts) : ∃ A c, v = .slice A ts.length c ∧ RTs w A ts := by
  obtain ⟨xs, h1, h2⟩ := h
  rcases h1.2 with ⟨rfl, hn⟩ | ⟨g, cap, cur, rfl, r⟩
  · have h0 : ts = [] := List.eq_nil_of_length_eq_zero hn
    subst h0
    refine ⟨none, 0, rfl, xs, ?_, RTl.of_own h2⟩
    have := OTl.len h2
    obtain rfl : xs = [] := List.eq_nil_of_length_eq_zero this
    exact Reads.none_
  · exact ⟨_, _, rfl, xs, Reads.of_own (show w.ownsRow base 30 6 (.slice (some ⟨g, 0, none⟩) ts.length cap) ts.length _ from h1), RTl.of_own h2⟩
theorem rt_cells : ∀ {w : World} {xs : List (Array Value)} {ts : List Tok} (_ : RTl w xs ts) (k : Nat) (hk : k < ts.length), ∃ A c B d, RInts w A ts[k].ps ∧ RByt w B ts[k].dt ∧ ∀ j u, (ts[k].cs A c B d)[j]? = some u → (xs.flatMap Array.toList)[k * 6 + j]? = some u
  | _, [], [], _, k, hk => by simp at hk
  | w, x :: xs, t :: ts, h, 0, _ => by
    obtain ⟨⟨A, c, B, d, e, h1, h2⟩, h3⟩ := h
    refine ⟨A, c, B, d, h1, h2, fun j u hu => ?_⟩
    subst e
    have hj : j < 6 := by
      have := (Array.getElem?_eq_some_iff.1 hu).1
      simpa [Tok.cs] using this
    rw [List.flatMap_cons, Nat.zero_mul, Nat.zero_add, List.getElem?_append_left (by simpa [Tok.cs] using hj)]
    simpa using hu
  | w, x :: xs, t :: ts, h, k + 1, hk => by
    obtain ⟨⟨A, c, B, d, e, h1, h2⟩, h3⟩ := h
    obtain ⟨A', c', B', d', g1, g2, g3⟩ := rt_cells h3 k (by simpa using hk)
    refine ⟨A', c', B', d', g1, g2, fun j u hu => ?_⟩
    rw [List.flatMap_cons, List.getElem?_append_right (by subst e; simp [Tok.cs]; omega)]
    have hx : x.toList.length = 6 := by subst e; simp [Tok.cs]
    rw [hx, show (k + 1) * 6 + j - 6 = k * 6 + j from by omega]
    exact g3 j u hu
/-- A token of a list that is read. -/
theorem RTs.at_ {w : World} {A : Option Addr} {ts : List Tok} (h : RTs w A ts) {k : Nat} (hk : k < ts.length) : ∃ ad P pc D dc, A = some ad ∧ RInts w P ts[k].ps ∧ RByt w D ts[k].dt ∧
    w.cell? (ad.add (k * 6)) = some (.int .i64 ts[k].kd) ∧ w.cell? ⟨(ad.add (k * 6)).block, (ad.add (k * 6)).off + 1, none⟩ = some (.int .u8 (ts[k].cd : Int)) ∧ w.cell? ⟨(ad.add (k * 6)).block, (ad.add (k * 6)).off + 2, none⟩ = some (.int .u8 (ts[k].mr : Int)) ∧
    w.cell? ⟨(ad.add (k * 6)).block, (ad.add (k * 6)).off + 3, none⟩ = some (.slice P ts[k].ps.length pc) ∧ w.cell? ⟨(ad.add (k * 6)).block, (ad.add (k * 6)).off + 4, none⟩ = some (.string ts[k].it) ∧ w.cell? ⟨(ad.add (k * 6)).block, (ad.add (k * 6)).off + 5, none⟩ = some (.slice D ts[k].dt.length dc) := by
  obtain ⟨xs, h1, h2⟩ := h
  obtain ⟨ad, rfl, hb, hc⟩ := h1.2 (by omega)
  obtain ⟨P, pc, D, dc, g1, g2, g3⟩ := rt_cells h2 k hk
  have a1 : (⟨(ad.add (k * 6)).block, (ad.add (k * 6)).off + 1, none⟩ : Addr) = ad.add (k * 6 + 1) := (show _ = (ad.add (k * 6)).add 1 from rfl).trans (add_of_add ad _ _)
  have a2 : (⟨(ad.add (k * 6)).block, (ad.add (k * 6)).off + 2, none⟩ : Addr) = ad.add (k * 6 + 2) := (show _ = (ad.add (k * 6)).add 2 from rfl).trans (add_of_add ad _ _)
  have a3 : (⟨(ad.add (k * 6)).block, (ad.add (k * 6)).off + 3, none⟩ : Addr) = ad.add (k * 6 + 3) := (show _ = (ad.add (k * 6)).add 3 from rfl).trans (add_of_add ad _ _)
  have a4 : (⟨(ad.add (k * 6)).block, (ad.add (k * 6)).off + 4, none⟩ : Addr) = ad.add (k * 6 + 4) := (show _ = (ad.add (k * 6)).add 4 from rfl).trans (add_of_add ad _ _)
  have a5 : (⟨(ad.add (k * 6)).block, (ad.add (k * 6)).off + 5, none⟩ : Addr) = ad.add (k * 6 + 5) := (show _ = (ad.add (k * 6)).add 5 from rfl).trans (add_of_add ad _ _)
  refine ⟨ad, P, pc, D, dc, rfl, g1, g2, ?_⟩
  rw [a1, a2, a3, a4, a5]
  exact ⟨hc _ _ (g3 0 _ rfl), hc _ _ (g3 1 _ rfl), hc _ _ (g3 2 _ rfl), hc _ _ (g3 3 _ rfl), hc _ _ (g3 4 _ rfl), hc _ _ (g3 5 _ rfl)⟩
theorem far_new {w : World} {A : Option Addr} {ns : List Nat} (hr : RByt w A ns) {g : Nat} (hg : w.heap.size ≤ g) : ∀ ad, 0 < ns.length → A = some ad → ad.block ≠ g := fun ad h0 e => by
  obtain ⟨ad', e', hlt, _⟩ := hr.2 h0
  rw [e] at e'; injection e' with e'; subst e'; omega
theorem OTl.more {w : World} {b b' : Nat} (hb : b' ≤ b) : ∀ {xs : List (Array Value)} {ts : List Tok}, OTl w b xs ts → OTl w b' xs ts
  | [], [], _ => trivial
  | _ :: _, _ :: _, h => ⟨h.1.more hb, OTl.more hb h.2⟩
theorem OTks.more {w : World} {b b' : Nat} {v : Value} {ts : List Tok} (h : OTks w b v ts) (hb : b' ≤ b) : OTks w b' v ts := by
  obtain ⟨xs, h1, h2⟩ := h
  exact ⟨xs, own_base h1 hb, h2.more hb⟩
theorem below_of_grown {B : Nat} {w w1 w2 : World} {g : Nat} (h : Below B w w1) (hg : w1.grownBy w2 (some g)) (hB : B ≤ g) (hs : B ≤ w1.heap.size := by omega) : Below B w w2 :=
  ⟨hg.os.trans h.os, hg.tape.trans h.tape, hg.output.trans h.output, Nat.le_trans h.size hg.size, fun k hk => (hg.block k (Nat.lt_of_lt_of_le hk hs) (by simp; omega)).trans (h.block k hk)⟩
set_option maxRecDepth 100000 in
set_option maxHeartbeats 4000000 in
theorem split_any (A : Option Addr) (cap : Nat) (ns : List Nat) (hn : ∀ n ∈ ns, n < 256) (hl : ns.length ≤ 1000000) (w : World) (hr : RByt w A ns) :
    Calls Try.prog 17 #[.slice A ns.length cap] w fun e w' => ∃ v, e = .returned v ∧ OTks w' w.heap.size v (feedL ps0 ns).2 ∧ Below w.heap.size w w' := by
  have hb : Below w.heap.size w (w.alloc (.cells ps0.cells.toArray 38)) := (Below.refl _ w).alloc (Nat.le_refl _) _
  have HB := Lib.hid hb
  have HF := Lib.hid (feed_any w.heap.size ps0 R0 A cap ns hn hl (far_new hr (Nat.le_refl _)) _ (ps_new w) (hr.next hb))
  clear hb hr
  go_enter Try.func17, Try.ntmps17
  go_upto_region 1 with fail
  go_wp2_with (refine wpList_alloc_ps rfl rfl ?_)
  generalize w.alloc (.cells ps0.cells.toArray 38) = w1 at *
  refine HF.out.mono ?_
  rintro e w2 ⟨v, rfl, hw⟩
  have HW := Lib.hid hw
  clear hw HF
  go_wp2_with fail
  go_ret
  exact ⟨_, rfl, HW.out.tok.more HB.out.size, below_of_grown HB.out HW.out.gro (Nat.le_refl _) HB.out.size⟩
theorem idle_any (g : Nat) (s : Ps) (w : World) (h : PsB w g s) : Calls Try.prog 16 #[.pointer (some ⟨g, 0, none⟩)] w fun e w' => e = .returned (.bool (s.pl == 0)) ∧ w' = w := by
  have q0 := h.at_ 0 _ rfl
  clear h
  go_enter Try.func16, Try.ntmps16
  go_wp2_with fail
  go_ret
  exact ⟨rfl, rfl⟩
end Go.Proofs.Ytdmiihmaijbkfaa

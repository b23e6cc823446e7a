/-
  Lists of memory of their own, that are made as letters and put in a row; a row that grows while they lie there.
-/
import Derived.Test.YtbndnaohjloanaaDoorKeepC
import Derived.Test.YtbndnaohjloanaaDoorLineX
namespace Go.Proofs.YtbndnaohjloanaaDoor
open Go Go.RowKit

theorem ocells_mono {w : World} {b b' : Nat} {v : Value} {l : List Cl} (h : OCells w b v l) (hb : b' ≤ b) : OCells w b' v l := by
  refine ⟨h.1, ?_⟩
  rcases h.2 with h | ⟨g, cap, cur, hv, hg, r⟩
  · exact .inl h
  · exact .inr ⟨g, cap, cur, hv, Nat.le_trans hb hg, r⟩
/-- The slice of cells that a line holds. -/
def cellsOf : Value → Value
  | .agg xs => xs.getD 0 undef
  | v => v
theorem cellsOf_line (A : Option Addr) (n c : Nat) (z : Int) : cellsOf (lineV A n c z) = .slice A n c := rfl
theorem lnF_next {B : Nat} {L : List Cl} {size : Int} {u : Value} {W W' : World} (h : LnF B L size u W) (hb : Below W.heap.size W W') : LnF B L size u W' := by
  obtain ⟨A, c, base, e, h1, h2⟩ := h
  exact ⟨A, c, base, e, h1, h2.next hb⟩
/-- Lists, each of memory of its own. -/
structure PL (W : World) (b : Nat) (vs : List Value) (Ls : List (List Cl)) : Prop where
  len : vs.length = Ls.length
  own : ∀ (i : Nat) (v : Value) (L : List Cl), vs[i]? = some v → Ls[i]? = some L → OCells W b v L
  apart : ∀ (i j : Nat) (v u : Value) (a : Nat), i ≠ j → vs[i]? = some v → vs[j]? = some u → v.ownBlock = some a → u.ownBlock ≠ some a
theorem PL.sized {W : World} {b : Nat} {vs : List Value} {Ls : List (List Cl)} (h : PL W b vs Ls) {i : Nat} {v : Value} (hv : vs[i]? = some v) {k : Nat} (hk : v.ownBlock = some k) : b ≤ k ∧ k < W.heap.size := by
  have hi : i < Ls.length := by rw [← h.len]; exact (List.getElem?_eq_some_iff.1 hv).1
  exact World.ownsRow.lt (h.own i v _ hv (List.getElem?_eq_getElem hi)) k hk
theorem PL.snoc {W : World} {b : Nat} {vs : List Value} {Ls : List (List Cl)} {v : Value} {L : List Cl} (h : PL W b vs Ls) (ho : OCells W b v L) (hne : ∀ (i : Nat) (u : Value) (k : Nat), vs[i]? = some u → u.ownBlock = some k → v.ownBlock ≠ some k) : PL W b (vs ++ [v]) (Ls ++ [L]) := by
  have at_ : ∀ (i : Nat) (u : Value), (vs ++ [v])[i]? = some u → (i < vs.length ∧ vs[i]? = some u) ∨ (i = vs.length ∧ u = v) := by
    intro i u hu
    rcases Nat.lt_trichotomy i vs.length with hi | hi | hi
    · rw [List.getElem?_append_left hi] at hu; exact .inl ⟨hi, hu⟩
    · subst hi
      rw [List.getElem?_append_right (Nat.le_refl _)] at hu
      simp at hu
      exact .inr ⟨rfl, hu.symm⟩
    · rw [List.getElem?_eq_none (by simp; omega)] at hu; cases hu
  refine ⟨by simp [h.len], fun i u K hu hK => ?_, fun i j u x a hij hu hx ha => ?_⟩
  · rcases at_ i u hu with ⟨hi, hu'⟩ | ⟨rfl, rfl⟩
    · rw [List.getElem?_append_left (by rw [← h.len]; exact hi)] at hK
      exact h.own i u K hu' hK
    · rw [h.len, List.getElem?_append_right (Nat.le_refl _)] at hK
      simp at hK
      subst hK
      exact ho
  · rcases at_ i u hu with ⟨hi, hu'⟩ | ⟨rfl, rfl⟩ <;> rcases at_ j x hx with ⟨hj, hx'⟩ | ⟨rfl, rfl⟩
    · exact h.apart i j u x a hij hu' hx' ha
    · exact hne i u a hu' ha
    · exact fun e => hne j x a hx' e ha
    · exact absurd rfl hij
/-- A list ahead of the others. -/
theorem PL.cons {W : World} {b : Nat} {vs : List Value} {Ls : List (List Cl)} {v : Value} {L : List Cl} (h : PL W b vs Ls) (ho : OCells W b v L) (hne : ∀ (i : Nat) (u : Value) (k : Nat), vs[i]? = some u → u.ownBlock = some k → v.ownBlock ≠ some k) : PL W b (v :: vs) (L :: Ls) := by
  refine ⟨by simp [h.len], fun i u K hu hK => ?_, fun i j u x a hij hu hx ha => ?_⟩
  · cases i with
    | zero => obtain rfl := Option.some.inj hu; obtain rfl := Option.some.inj hK; exact ho
    | succ i => exact h.own i u K (by simpa using hu) (by simpa using hK)
  · cases i with
    | zero => cases j with
      | zero => exact absurd rfl hij
      | succ j =>
        obtain rfl := Option.some.inj hu
        exact fun e => hne j x a (by simpa using hx) e ha
    | succ i => cases j with
      | zero =>
        obtain rfl := Option.some.inj hx
        exact hne i u a (by simpa using hu) ha
      | succ j => exact h.apart i j u x a (by omega) (by simpa using hu) (by simpa using hx) ha
theorem PL.mono {W : World} {b b' : Nat} {vs : List Value} {Ls : List (List Cl)} (h : PL W b vs Ls) (hb : b' ≤ b) : PL W b' vs Ls :=
  ⟨h.len, fun i v L hv hL => ocells_mono (h.own i v L hv hL) hb, h.apart⟩
theorem PL.kept {W W' : World} {b : Nat} {vs : List Value} {Ls : List (List Cl)} (h : PL W b vs Ls) (hk : ∀ (i : Nat) (v : Value) (k : Nat), vs[i]? = some v → v.ownBlock = some k → W'.heap[k]? = W.heap[k]?) : PL W' b vs Ls := by
  refine ⟨h.len, fun i v L hv hL => ?_, h.apart⟩
  have ho := h.own i v L hv hL
  refine ⟨ho.1, ?_⟩
  rcases ho.2 with hn | ⟨g, cap, cur, e, hg, hh, rest⟩
  · exact .inl hn
  · refine .inr ⟨g, cap, cur, e, hg, ?_, rest⟩
    rw [hk i v g hv (by rw [e]; rfl)]
    exact hh
/-- Lists that are there with the row that holds them. -/
theorem PL.ls {W : World} {b bo : Nat} {A : Option Addr} {c : Nat} {vs : List Value} {Ls : List (List Cl)} (h : PL W b vs Ls) (ho : W.ownsRow bo 22 1 (.slice A vs.length c) vs.length vs) (hf : ∀ (i : Nat) (v : Value) (k : Nat), vs[i]? = some v → v.ownBlock = some k → some k ≠ Value.ownBlock (.slice A vs.length c)) : LS W b A vs Ls := by
  refine ⟨h.len, Reads.of_own ho, h.own, h.apart, fun ad i v e hv hb => ?_⟩
  have hi := (List.getElem?_eq_some_iff.1 hv).1
  obtain ⟨g, cap, e2, _⟩ := World.ownsRow.form ho (by omega)
  injection e2 with e3 _ _
  rw [e] at e3
  have e4 := Option.some.inj e3
  subst e4
  refine hf i v g hv hb ?_
  rw [e]
  rfl
theorem wpList_pushA {P : Program} {ops : Array Oper} {rest : List Oper} {o : Oper} {a : Act} {Q : Exit → Act → World → Prop} {W : World} (hgd : o.guard = none) (s x : Operand) (t : TypeId)
    (ho : o.op = .call { callee := .builtin .append, args := #[s, x], argTypes := #[t, t] })
    (base : Nat) (e : TypeId) (z : Value) (size bytes : Nat) (ht : P.underlying t = some (.slice e)) (hinfo : (P.info? e).map (fun i => (i.zero, i.size, i.bytes)) = some (some z, size, bytes)) (hzs : z.cells.size = size) (hsz : 0 < size)
    (v : Value) (n : Nat) (xs : List Value) (hs : a.eval s = v) (hown : W.ownsRow base e size v n xs)
    (us : List Value) (hul : us.length = size) (hu : ∀ u ∈ us, u.oneCell' = true) (cs : Array Value) (hcs : cs = us.toArray) (T : TypeId) (g c : Nat) (hg : g = W.heap.size) (hx : a.eval x = .slice (some ⟨g, 0, none⟩) 1 c)
    (h63 : n + 1 ≤ maxLen) (hbytes : (n + 1) * bytes ≤ 140737488355328) (hbase : base ≤ W.heap.size)
    (h : ∀ v' w', w'.ownsRow base e size v' (n + 1) (xs ++ us) → W.grownBy w' v.ownBlock → Below base W w' → (∀ G, G < W.heap.size → some G ≠ v.ownBlock → some G ≠ v'.ownBlock) → wpList P ops Q rest (a.put o.dst v') w') : wpList P ops Q (o :: rest) a (W.alloc (.cells cs T)) := by
  obtain ⟨i, hi, hz, hsize, hby⟩ := info_parts hinfo
  subst hcs
  have hB : Below W.heap.size W (W.alloc (.cells us.toArray T)) := (Below.refl _ _).alloc (Nat.le_refl _) _
  refine wpList_append_own_at _ hgd s x t ho base e i z size bytes ht hi hz hsize hby hzs hsz v n xs hs (hown.alloc _) ⟨g, 0, none⟩ 1 c us hx (by omega) (fun j u' hj => ?_) hu h63 hbytes (Nat.le_trans hbase hB.size) (fun v' w' h2 h3 _ h5 => h v' w' h2 (grown_own hB h3) (below_own hown hbase hB h3) (fun G hG hne => ?_))
  · subst hg
    have hadd : (⟨W.heap.size, 0, none⟩ : Addr).add j = ⟨W.heap.size, j, none⟩ := by unfold Addr.add; split <;> simp_all
    rw [hadd, (Blk.new W T _).cell j]
    simpa using hj
  · rcases h5 with h5 | h5
    · rw [h5]; exact hne
    · rw [h5]
      intro e1
      have e2 := Option.some.inj e1
      have := hB.size
      omega
theorem info_slc : (Tryd.prog.info? 22).map (fun i => (i.zero, i.size, i.bytes)) = some (some (.slice none 0 0), 1, 24) := by kernel_rfl
theorem owns_kept {w w' : World} {base size n : Nat} {e : TypeId} {v : Value} {xs : List Value} (h : w.ownsRow base e size v n xs) (hb : Below w.heap.size w w') : w'.ownsRow base e size v n xs :=
  World.ownsRow.kept (row := none) h ⟨hb.os, hb.tape, hb.output, hb.size, fun k hk _ => hb.block k hk⟩ (by cases v.ownBlock <;> simp)
/-- A row that grows lies in a block of its own, or in the one where it began. -/
structure Grow (W w : World) (gl : Nat) (lv : Value) (n : Nat) (vs : List Value) : Prop where
  own : w.ownsRow gl 22 1 lv n vs
  grown : W.grownBy w (some gl)
  far : ∀ G, G < W.heap.size → G ≠ gl → some G ≠ lv.ownBlock
theorem Grow.alloc {W w : World} {gl n : Nat} {lv : Value} {vs : List Value} (h : Grow W w gl lv n vs) (o : Obj) : Grow W (w.alloc o) gl lv n vs :=
  ⟨h.own.alloc o, grown_tr h.grown (grown_of_below ((Below.refl _ _).alloc (Nat.le_refl _) o)), h.far⟩
theorem Grow.push {W w w' : World} {gl n : Nat} {lv lv' u : Value} {vs : List Value} (h : Grow W w gl lv n vs) (ho : w'.ownsRow gl 22 1 lv' (n + 1) (vs ++ [u])) (hg : w.grownBy w' lv.ownBlock) (hf : ∀ G, G < w.heap.size → some G ≠ lv.ownBlock → some G ≠ lv'.ownBlock) : Grow W w' gl lv' (n + 1) (vs ++ [u]) :=
  ⟨ho, ⟨hg.os.trans h.grown.os, hg.tape.trans h.grown.tape, hg.output.trans h.grown.output, Nat.le_trans h.grown.size hg.size, fun k hk hne => (hg.block k (Nat.lt_of_lt_of_le hk h.grown.size) (h.far k hk (fun e => hne (by rw [e])))).trans (h.grown.block k hk hne)⟩,
   fun G hG hne => hf G (Nat.lt_of_lt_of_le hG h.grown.size) (h.far G hG hne)⟩
/-- Nine lines of memory of their own, in a row. -/
def NinF (B : Nat) (Ls : List (List Cl)) (u : Value) (W : World) : Prop := ∃ (g : Nat) (us : List Value), u = .slice (some ⟨g, 0, none⟩) 9 9 ∧ B ≤ g ∧ us.length = 9 ∧ Ls.length = 9 ∧ Blk W g 29 (us.flatMap fun x => (unAgg x).toList).toArray ∧
  (∀ (i : Nat) (x : Value) (L : List Cl), us[i]? = some x → Ls[i]? = some L → ∃ z, LnF B L z x W) ∧ (∀ (i j : Nat) (x y : Value), i ≠ j → us[i]? = some x → us[j]? = some y → ∀ b ∈ blksOf x, b ∉ blksOf y)
def NinP (u : Value) : Prop := ∃ g, u = .slice (some ⟨g, 0, none⟩) 9 9
theorem ninF_stab (ks : Kinds) (wr : World) (Ls : List (List Cl)) (h : boxes ks = []) : ∀ v w w', Kept ks wr w w' → NinF wr.heap.size Ls v w → NinF wr.heap.size Ls v w' := by
  rintro v w w' hk ⟨g, us, e, hB, h1, h2, hb, hl, hp⟩
  refine ⟨g, us, e, hB, h1, h2, ?_, fun i x L hx hL => ?_, hp⟩
  · exact (hk.block g hb.lt hB (fun cs T fr _ => by rw [h]; simp)).trans hb
  · obtain ⟨z, hz⟩ := hl i x L hx hL
    exact ⟨z, lnF_stab ks wr L z (by rw [h]; simp) _ _ _ hk hz⟩
theorem two_flat (us : List Value) (h : ∀ x ∈ us, ∃ A n c z, x = lineV A n c z) (k : Nat) (A : Option Addr) (n c : Nat) (z : Int) (hk : us[k]? = some (lineV A n c z)) : (us.flatMap fun x => (unAgg x).toList)[k * 2]? = some (.slice A n c) ∧ (us.flatMap fun x => (unAgg x).toList)[k * 2 + 1]? = some (.int .i64 z) := by
  induction us generalizing k with
  | nil => simp at hk
  | cons x us ih =>
    obtain ⟨A', n', c', z', rfl⟩ := h x (by simp)
    have e : (unAgg (lineV A' n' c' z')).toList = [.slice A' n' c', .int .i64 z'] := rfl
    rw [List.flatMap_cons, e]
    cases k with
    | zero =>
      have e2 : lineV A' n' c' z' = lineV A n c z := by simpa using hk
      unfold lineV at e2
      injection e2 with e2
      injection e2 with e2
      have e3 := List.cons.inj e2
      have e4 := List.cons.inj e3.2
      rw [e3.1, e4.1]
      exact ⟨rfl, rfl⟩
    | succ k =>
      have := ih (fun y hy => h y (by simp [hy])) k (by simpa using hk)
      rw [show (k + 1) * 2 = k * 2 + 1 + 1 from by omega]
      simpa using this
/-- Of the nine lines: what the row holds at a place, and all their cells as lists of memory of their own. -/
theorem NinF.open_ {B : Nat} {Ls : List (List Cl)} {u : Value} {W : World} (h : NinF B Ls u W) : ∃ (g : Nat) (vs : List Value), u = .slice (some ⟨g, 0, none⟩) 9 9 ∧ B ≤ g ∧ g < W.heap.size ∧ PL W B vs Ls ∧ vs.length = 9 ∧
    (∀ k, k < 9 → ∃ A c z L, vs[k]? = some (.slice A L.length c) ∧ Ls[k]? = some L ∧ ∀ W' : World, W'.heap[g]? = W.heap[g]? → W'.cell? ⟨g, k * 2, none⟩ = some (.slice A L.length c) ∧ W'.cell? ⟨g, k * 2 + 1, none⟩ = some (.int .i64 z)) := by
  obtain ⟨g, us, e, hB, h1, h2, hb, hl, hp⟩ := h
  have form : ∀ (i : Nat) (x : Value), us[i]? = some x → ∃ A c z L base, x = lineV A L.length c z ∧ Ls[i]? = some L ∧ B ≤ base ∧ OCells W base (.slice A L.length c) L := by
    intro i x hx
    have hi : i < Ls.length := by rw [h2, ← h1]; exact (List.getElem?_eq_some_iff.1 hx).1
    obtain ⟨z, A, c, base, ex, hbb, ho⟩ := hl i x _ hx (List.getElem?_eq_getElem hi)
    exact ⟨A, c, z, _, base, ex, List.getElem?_eq_getElem hi, hbb, ho⟩
  have own_in : ∀ (A : Option Addr) (n c : Nat) (z : Int) (a : Nat), Value.ownBlock (.slice A n c) = some a → a ∈ blksOf (lineV A n c z) := by
    intro A n c z a ha
    cases A with
    | none => simp [Value.ownBlock] at ha
    | some ad =>
      have e : ad.block = a := by simpa [Value.ownBlock] using ha
      subst e
      simp [blksOf, lineV, sliceBlk]
  refine ⟨g, us.map cellsOf, e, hB, hb.lt, ⟨by rw [List.length_map, h1, h2], fun i v L hv hL => ?_, fun i j v x a hij hv hx ha hx' => ?_⟩, by rw [List.length_map, h1], fun k hk => ?_⟩
  · rw [List.getElem?_map, Option.map_eq_some_iff] at hv
    obtain ⟨x, hx, rfl⟩ := hv
    obtain ⟨A, c, z, L', base, rfl, hL', hbb, ho⟩ := form i x hx
    rw [hL] at hL'
    obtain rfl := Option.some.inj hL'
    rw [cellsOf_line]
    exact ocells_mono ho hbb
  · rw [List.getElem?_map, Option.map_eq_some_iff] at hv hx
    obtain ⟨p, hp1, rfl⟩ := hv
    obtain ⟨q, hq1, rfl⟩ := hx
    obtain ⟨A, c, z, L', base, rfl, hL', hbb, ho⟩ := form i p hp1
    obtain ⟨A2, c2, z2, L2, base2, rfl, hL2, hbb2, ho2⟩ := form j q hq1
    rw [cellsOf_line] at ha hx'
    exact hp i j _ _ hij hp1 hq1 a (own_in _ _ _ _ _ ha) (own_in _ _ _ _ _ hx')
  · have hku : k < us.length := by rw [h1]; exact hk
    obtain ⟨A, c, z, L, base, ex, hL, _, _⟩ := form k us[k] (List.getElem?_eq_getElem hku)
    have hx : us[k]? = some (lineV A L.length c z) := by rw [List.getElem?_eq_getElem hku, ex]
    refine ⟨A, c, z, L, by rw [List.getElem?_map, hx]; rfl, hL, fun W' hW => ?_⟩
    obtain ⟨t1, t2⟩ := two_flat us (fun x hx' => by
      obtain ⟨i, hi⟩ := List.getElem?_of_mem hx'
      obtain ⟨A', c', z', L', _, e', _⟩ := form i x hi
      exact ⟨A', _, c', z', e'⟩) k A L.length c z hx
    have hb' : Blk W' g 29 (us.flatMap fun x => (unAgg x).toList).toArray := hW.trans hb
    exact ⟨by rw [hb'.cell]; simpa using t1, by rw [hb'.cell]; simpa using t2⟩
theorem spare_take (l : List Cl) : (spareL l).take l.length = l := by unfold spareL; simp
/-- A row of one list is made behind another block. -/
theorem new_lists (W : World) (o : Obj) (v : Value) : ((W.alloc o).alloc (.cells #[v] 22)).ownsRow (W.heap.size + 1) 22 1 (.slice (some ⟨W.heap.size + 1, 0, none⟩) 1 1) 1 [v] := by
  have := World.ownsRow_lit (e := 22) (size := 1) (base := W.heap.size + 1) (W.alloc o) #[v] 1 (by simp) (by unfold maxLen; omega) rfl
  simpa using this
theorem exec_append {P : Program} {o : Oper} {a : Act} (s x : Operand) (t : TypeId) (ho : o.op = .call { callee := .builtin .append, args := #[s, x], argTypes := #[t, t] }) {v y u : Value} {w w' : World} (hs : a.eval s = v) (hx : a.eval x = y)
    (hr : (Builtin.append_ #[t, t] o.type #[v, y]).run P w = .ok u w') : (execOp a.eval o).run P w = .ok (.value u) w' := by
  unfold execOp
  simp only [ho, resolve, invoke, builtin, Sem.run_bind, Sem.run_pure, Result.andThen_ok, List.map_toArray, List.map_cons, List.map_nil, hs, hx, hr]
theorem owns_same {w w' : World} {base size n : Nat} {e : TypeId} {v : Value} {xs : List Value} (h : w.ownsRow base e size v n xs) (hk : ∀ k, v.ownBlock = some k → w'.heap[k]? = w.heap[k]?) : w'.ownsRow base e size v n xs := by
  refine ⟨h.1, ?_⟩
  rcases h.2 with hn | ⟨g, cap, cur, ev, hg, hh, rest⟩
  · exact .inl hn
  · refine .inr ⟨g, cap, cur, ev, hg, ?_, rest⟩
    rw [hk g (by rw [ev]; rfl)]
    exact hh
/-- Cells that were cut, as a letter. -/
def CtP (m : Nat) (u : Value) : Prop := ∃ g, u = .slice (some ⟨g, 0, none⟩) m m
def CtF (B : Nat) (L : List Cl) (u : Value) (W : World) : Prop := ∃ g, u = .slice (some ⟨g, 0, none⟩) L.length L.length ∧ B ≤ g ∧ Row W g L
theorem ctF_kept {ks : Kinds} {wr w w' : World} {L : List Cl} {u : Value} (h : boxes ks = []) (hk : Kept ks wr w w') (hf : CtF wr.heap.size L u w) : CtF wr.heap.size L u w' := by
  obtain ⟨g, e, hB, hr⟩ := hf
  exact ⟨g, e, hB, (hk.block g (Row.lt hr) hB (fun cs T fr _ => by rw [h]; simp)).trans hr⟩
theorem ctF_stab (ks : Kinds) (wr : World) (L : List Cl) (h : boxes ks = []) : ∀ v w w', Kept ks wr w w' → CtF wr.heap.size L v w → CtF wr.heap.size L v w' := fun _ _ _ hk hf => ctF_kept h hk hf
theorem CtF.next {B : Nat} {L : List Cl} {u : Value} {W W' : World} (h : CtF B L u W) (hb : Below W.heap.size W W') : CtF B L u W' := by
  obtain ⟨g, e, hB, hr⟩ := h
  exact ⟨g, e, hB, Row.next hr hb⟩
/-- Two of them in a row. -/
def TwP (u : Value) : Prop := ∃ g, u = .slice (some ⟨g, 0, none⟩) 2 2
def TwF (B : Nat) (L : List Cl) (u : Value) (W : World) : Prop := ∃ g u1 u2, u = .slice (some ⟨g, 0, none⟩) 2 2 ∧ B ≤ g ∧ Blk W g 22 #[u1, u2] ∧ CtF B L u1 W ∧ CtF B L u2 W ∧ ∀ b ∈ blksOf u1, b ∉ blksOf u2
theorem twF_stab (ks : Kinds) (wr : World) (L : List Cl) (h : boxes ks = []) : ∀ v w w', Kept ks wr w w' → TwF wr.heap.size L v w → TwF wr.heap.size L v w' := by
  rintro v w w' hk ⟨g, u1, u2, e, hB, hb, h1, h2, hn⟩
  exact ⟨g, u1, u2, e, hB, (hk.block g hb.lt hB (fun cs T fr _ => by rw [h]; simp)).trans hb, ctF_kept h hk h1, ctF_kept h hk h2, hn⟩
/-- A row of lists that has grown by two of them. -/
def ApP (n : Nat) (u : Value) : Prop := ∃ g c, u = .slice (some ⟨g, 0, none⟩) n c
def ApF (B gl gb n : Nat) (xs : List Value) (L : List Cl) (u : Value) (W : World) : Prop := ∃ u1 u2, W.ownsRow gl 22 1 u n (xs ++ [u1, u2]) ∧ CtF B L u1 W ∧ CtF B L u2 W ∧ (∀ b ∈ blksOf u1, b ∉ blksOf u2) ∧ (∀ G, G < B → G ≠ gb → some G ≠ u.ownBlock) ∧ (∀ k, u.ownBlock = some k → k ∉ blksOf u1 ∧ k ∉ blksOf u2)
theorem apF_stab (ks : Kinds) (wr : World) (gl gb n : Nat) (xs : List Value) (L : List Cl) (h : boxes ks = []) : ∀ v w w', Kept ks wr w w' → w'.heap[gb]? = w.heap[gb]? → ApF wr.heap.size gl gb n xs L v w → ApF wr.heap.size gl gb n xs L v w' := by
  rintro v w w' hk hgb ⟨u1, u2, ho, h1, h2, hn, hf, hu⟩
  refine ⟨u1, u2, owns_same ho (fun k hk' => ?_), ctF_kept h hk h1, ctF_kept h hk h2, hn, hf, hu⟩
  by_cases e : k < wr.heap.size
  · by_cases e2 : k = gb
    · rw [e2]; exact hgb
    · exact absurd hk'.symm (hf k e e2)
  · exact hk.block k (World.ownsRow.lt ho k hk').2 (by omega) (fun cs T fr _ => by rw [h]; simp)
section
variable {W : World} {B : Nat} {f : FuncId} {args : Array Value} {n : Nat} {size : Int} {l : List Cl}
theorem ln_rowF (hB : B ≤ W.heap.size) (hn : n = l.length) (hl : l.length ≤ 100000) (h : Calls Tryd.prog f args W fun e w' => ∃ g, W.heap.size ≤ g ∧ e = .returned (lineV (some ⟨g, 0, none⟩) n n size) ∧ Row w' g l ∧ Below W.heap.size W w') :
    Calls Tryd.prog f args W fun e w' => ∃ u, e = .returned u ∧ LnP n size u ∧ LnF B l size u w' ∧ Below W.heap.size W w' ∧ ∀ b ∈ blksOf u, W.heap.size ≤ b ∧ b < w'.heap.size :=
  h.mono fun e w' ⟨g, hg, he, hr, hb⟩ => ⟨_, he, ⟨_, _, rfl, Nat.le_refl _⟩, ⟨some ⟨g, 0, none⟩, l.length, g, by rw [hn], by omega, ocells_row hl hr⟩, hb, fun b hb' => by
    have e : b = g := by simpa [blksOf, lineV, sliceBlk] using hb'
    subst e
    exact ⟨hg, Row.lt hr⟩⟩
theorem ln_ownF {base : Nat} (hB : B ≤ W.heap.size) (hb0 : W.heap.size ≤ base) (hn : n = l.length) (h : Calls Tryd.prog f args W fun e w' => ∃ A c, e = .returned (lineV A n c size) ∧ OCells w' base (.slice A n c) l ∧ Below W.heap.size W w') :
    Calls Tryd.prog f args W fun e w' => ∃ u, e = .returned u ∧ LnP n size u ∧ LnF B l size u w' ∧ Below W.heap.size W w' ∧ ∀ b ∈ blksOf u, W.heap.size ≤ b ∧ b < w'.heap.size :=
  h.mono fun e w' ⟨A, c, he, ho, hb⟩ => ⟨_, he, ⟨A, c, rfl, by have := ocells_capX ho; omega⟩, ⟨A, c, base, by rw [hn], by omega, by subst hn; exact ho⟩, hb, fun b hb' => by
    cases A with
    | none => simp [blksOf, lineV, sliceBlk] at hb'
    | some ad =>
      have e : b = ad.block := by simpa [blksOf, lineV, sliceBlk] using hb'
      subst e
      have := World.ownsRow.lt (show w'.ownsRow base _ 3 (.slice (some ad) n c) l.length _ from ho) ad.block rfl
      omega⟩
theorem ct_cut {m : Nat} {l : List Cl} (hB : B ≤ W.heap.size) (hm : l.length = m) (h : Calls Tryd.prog f args W fun e w' => ∃ g, W.heap.size ≤ g ∧ e = .returned (.slice (some ⟨g, 0, none⟩) m m) ∧ Row w' g l ∧ Below W.heap.size W w') :
    Calls Tryd.prog f args W fun e w' => ∃ u, e = .returned u ∧ CtP m u ∧ CtF B l u w' ∧ Below W.heap.size W w' ∧ ∀ b ∈ blksOf u, W.heap.size ≤ b ∧ b < w'.heap.size :=
  h.mono fun e w' ⟨g, hg, he, hr, hb⟩ => ⟨_, he, ⟨g, rfl⟩, ⟨g, by rw [hm], by omega, hr⟩, hb, fun b hb' => by
    have e : b = g := by simpa [blksOf, sliceBlk] using hb'
    subst e
    exact ⟨hg, Row.lt hr⟩⟩
end
end Go.Proofs.YtbndnaohjloanaaDoor

/-
  The walk that makes runs of a row.
-/
import Derived.Test.YtgndjonalhdhkaaDoorPackC
import Derived.Test.YtgndjonalhdhkaaDoorKit3
import Derived.Test.YtgndjonalhdhkaaDoorOneC
namespace Go.Proofs.YtgndjonalhdhkaaDoor

open Go.RowKit

def Rn.cells (x : Rn) : List Value := [.int .i32 x.1.g, .int .u8 x.1.r, .bool x.1.k, .int .i64 x.2]
/-- A slice of runs of the call's own. -/
def ORuns (w : World) (base : Nat) (v : Value) (rs : List Rn) : Prop := w.ownsRow base 48 4 v rs.length (rs.flatMap Rn.cells)
theorem info_run : (Tryd.prog.info? 48).map (fun i => (i.zero, i.size, i.bytes)) = some (some (.agg #[.int .i32 0, .int .u8 0, .bool false, .int .i64 0]), 4, 16) := by kernel_rfl
theorem rflat_at (l : List Rn) (k : Nat) (hk : k < l.length) :
    (l.flatMap Rn.cells)[k * 4]? = some (.int .i32 l[k].1.g) ∧ (l.flatMap Rn.cells)[k * 4 + 1]? = some (.int .u8 l[k].1.r) ∧ (l.flatMap Rn.cells)[k * 4 + 2]? = some (.bool l[k].1.k) ∧ (l.flatMap Rn.cells)[k * 4 + 3]? = some (.int .i64 l[k].2) := by
  induction l generalizing k with
  | nil => simp at hk
  | cons c l ih =>
    cases k with
    | zero => simp [Rn.cells]
    | succ k =>
      have h := ih k (by simpa using hk)
      have e : (k + 1) * 4 = k * 4 + 4 := by omega
      rw [List.flatMap_cons, e]
      simp only [Rn.cells, List.cons_append, List.nil_append, List.getElem?_cons_succ, List.getElem_cons_succ]
      exact h
theorem rflat_set (l : List Rn) (k : Nat) (hk : k < l.length) (n : Nat) : (l.flatMap Rn.cells).set (k * 4 + 3) (.int .i64 n) = (l.set k (l[k].1, n)).flatMap Rn.cells := by
  induction l generalizing k with
  | nil => simp at hk
  | cons x l ih =>
    cases k with
    | zero => simp [Rn.cells]
    | succ k =>
      have h := ih k (by simpa using hk)
      have e : (k + 1) * 4 = k * 4 + 4 := by omega
      rw [List.flatMap_cons, e, List.set_cons_succ, List.flatMap_cons, List.getElem_cons_succ, ← h]
      simp [Rn.cells]
theorem oruns_head {w : World} {base : Nat} {v : Value} {l : List Rn} (h : ORuns w base v l) (hn : 0 < l.length) : ∃ g c, v = .slice (some ⟨g, 0, none⟩) l.length c ∧ base ≤ g ∧ g < w.heap.size := by
  rcases h.2 with ⟨_, h0⟩ | ⟨g, cap, cur, hv, hb, hh, _⟩
  · omega
  · refine ⟨g, cap, hv, hb, ?_⟩
    rcases Nat.lt_or_ge g w.heap.size with h' | h'
    · exact h'
    · rw [Array.getElem?_eq_none h'] at hh; cases hh
theorem oruns_cell {w : World} {base g n c : Nat} {l : List Rn} (hn : n = l.length) (h : ORuns w base (.slice (some ⟨g, 0, none⟩) n c) l) {k : Nat} (hk : k < l.length) :
    w.cell? ⟨g, k * 4, none⟩ = some (.int .i32 l[k].1.g) ∧ w.cell? ⟨g, k * 4 + 1, none⟩ = some (.int .u8 l[k].1.r) ∧ w.cell? ⟨g, k * 4 + 2, none⟩ = some (.bool l[k].1.k) ∧ w.cell? ⟨g, k * 4 + 3, none⟩ = some (.int .i64 l[k].2) ∧ ∀ j, w.frozen? ⟨g, j, none⟩ = false := by
  subst hn
  obtain ⟨h1, h2, h3, h4⟩ := rflat_at l k hk
  refine ⟨?_, ?_, ?_, ?_, fun j => World.ownsRow.frozenAt h j⟩
  · rw [World.ownsRow.cellAt h _ (by omega), h1]
  · rw [World.ownsRow.cellAt h _ (by omega), h2]
  · rw [World.ownsRow.cellAt h _ (by omega), h3]
  · rw [World.ownsRow.cellAt h _ (by omega), h4]
theorem oruns_count {w : World} {base g n c : Nat} {l : List Rn} (hn : n = l.length) (h : ORuns w base (.slice (some ⟨g, 0, none⟩) n c) l) (k : Nat) (hk : k < l.length) (q : Nat) :
    ORuns (w.setCell ⟨g, k * 4 + 3, none⟩ (.int .i64 q)) base (.slice (some ⟨g, 0, none⟩) n c) (l.set k (l[k].1, q)) := by
  subst hn
  have h1 := (World.ownsRow.stored h (k * 4 + 3) (.int .i64 q)).1
  rw [rflat_set l k hk q] at h1
  unfold ORuns
  rw [List.length_set]
  exact h1
theorem oruns_form {w : World} {base : Nat} {v : Value} {l : List Rn} (h : ORuns w base v l) : ∃ A c, v = .slice A l.length c := by
  rcases h.2 with ⟨rfl, hn⟩ | ⟨g, cap, _, rfl, _⟩
  · exact ⟨none, 0, by rw [hn]⟩
  · exact ⟨_, _, rfl⟩
theorem oruns_drewN {w : World} {base : Nat} {v : Value} {l : List Rn} (h : ORuns w base v l) (n : Nat) : (w.drewN n).ownsRow base 48 4 v l.length (l.flatMap Rn.cells) := h
theorem run_one (g r : Int) (b : Bool) (n : Int) : ∀ u ∈ [Value.int .i32 g, .int .u8 r, .bool b, .int .i64 n], u.oneCell' = true := by
  intro u hu
  simp at hu
  rcases hu with rfl | rfl | rfl | rfl <;> rfl
theorem ORuns.next {w w' : World} {base : Nat} {v : Value} {l : List Rn} (h : ORuns w base v l) (hb : Below w.heap.size w w') : ORuns w' base v l :=
  World.ownsRow.kept (row := none) h ⟨hb.os, hb.tape, hb.output, hb.size, fun k hk _ => hb.block k hk⟩ (by cases v.ownBlock <;> simp)

/-- A struct more, at the end of a slice of the call's own. -/
theorem wpList_pushN {P : Program} {ops : Array Oper} {rest : List Oper} {o : Oper} {a : Act} {Q : Exit → Act → World → Prop} {W : World} (hgd : o.guard = none) (s x : Operand) (t : TypeId)
    (ho : o.op = .call { callee := .builtin .append, args := #[s, x], argTypes := #[t, t] })
    (base : Nat) (e : TypeId) (z : Value) (size bytes : Nat) (ht : P.underlying t = some (.slice e)) (hinfo : (P.info? e).map (fun i => (i.zero, i.size, i.bytes)) = some (some z, size, bytes)) (hzs : z.cells.size = size) (hsz : 0 < size)
    (v : Value) (n : Nat) (xs : List Value) (hs : a.eval s = v) (hown : W.ownsRow base e size v n xs)
    (us : List Value) (hul : us.length = size) (hu : ∀ u ∈ us, u.oneCell' = true) (cs : Array Value) (hcs : cs = us.toArray) (T : TypeId) (g c : Nat) (hg : g = W.heap.size) (hx : a.eval x = .slice (some ⟨g, 0, none⟩) 1 c)
    (h63 : n + 1 ≤ maxLen) (hbytes : (n + 1) * bytes ≤ 140737488355328) (hbase : base ≤ W.heap.size)
    (h : ∀ v' w', w'.ownsRow base e size v' (n + 1) (xs ++ us) → W.grownBy w' v.ownBlock → Below base W w' → wpList P ops Q rest (a.put o.dst v') w') : wpList P ops Q (o :: rest) a (W.alloc (.cells cs T)) := by
  obtain ⟨i, hi, hz, hsize, hby⟩ := info_parts hinfo
  subst hcs
  have hB : Below W.heap.size W (W.alloc (.cells us.toArray T)) := (Below.refl _ _).alloc (Nat.le_refl _) _
  refine wpList_append_own _ hgd s x t ho base e i z size bytes ht hi hz hsize hby hzs hsz v n xs hs (hown.alloc _) ⟨g, 0, none⟩ 1 c us hx (by omega) (fun j u' hj => ?_) hu h63 hbytes (Nat.le_trans hbase hB.size) (fun v' w' h2 h3 _ => h v' w' h2 (grown_own hB h3) (below_own hown hbase hB h3))
  subst hg
  have hadd : (⟨W.heap.size, 0, none⟩ : Addr).add j = ⟨W.heap.size, j, none⟩ := by unfold Addr.add; split <;> simp_all
  rw [hadd, (Blk.new W T _).cell j]
  simpa using hj

theorem oruns_lastcell {w : World} {base g c m : Nat} {pre : List Rn} {x : Cl} {n : Nat} (hm : pre.length = m) (h : ORuns w base (.slice (some ⟨g, 0, none⟩) (m + 1) c) (pre ++ [(x, n)])) :
    w.cell? ⟨g, m * 4, none⟩ = some (.int .i32 x.g) ∧ w.cell? ⟨g, m * 4 + 1, none⟩ = some (.int .u8 x.r) ∧ w.cell? ⟨g, m * 4 + 2, none⟩ = some (.bool x.k) ∧ w.cell? ⟨g, m * 4 + 3, none⟩ = some (.int .i64 n) ∧ ∀ j, w.frozen? ⟨g, j, none⟩ = false := by
  subst hm
  have := oruns_cell (by simp) h (k := pre.length) (by simp)
  simpa using this
theorem oruns_lastcount {w : World} {base g c m : Nat} {pre : List Rn} {x : Cl} {n : Nat} (hm : pre.length = m) (h : ORuns w base (.slice (some ⟨g, 0, none⟩) (m + 1) c) (pre ++ [(x, n)])) (q : Nat) :
    ORuns (w.setCell ⟨g, m * 4 + 3, none⟩ (.int .i64 q)) base (.slice (some ⟨g, 0, none⟩) (m + 1) c) (pre ++ [(x, q)]) := by
  subst hm
  have := oruns_count (by simp) h pre.length (by simp) q
  simpa using this

/-- What is known in the midst of a round: the runs so far, the cell's box, old memory. -/
def KR (w : World) (g3 c3 m G : Nat) (pre : List Rn) (x : Cl) (n : Nat) (y : Cl) (W : World) : Prop :=
  pre.length = m ∧ ORuns W w.heap.size (.slice (some ⟨g3, 0, none⟩) (m + 1) c3) (pre ++ [(x, n)]) ∧ Blk W G 42 #[.int .i32 y.g, .int .u8 y.r, .bool y.k] ∧ Below w.heap.size w W
theorem KR.next {w W W' : World} {g3 c3 m G n : Nat} {pre : List Rn} {x y : Cl} (h : KR w g3 c3 m G pre x n y W) (hb : Below W.heap.size W W') : KR w g3 c3 m G pre x n y W' :=
  ⟨h.1, h.2.1.next hb, h.2.2.1.next hb, h.2.2.2.trans (hb.mono h.2.2.2.size)⟩
theorem KR.drew {w W : World} {g3 c3 m G n : Nat} {pre : List Rn} {x y : Cl} (h : KR w g3 c3 m G pre x n y W) : KR w g3 c3 m G pre x n y W.drew := ⟨h.1, h.2.1, h.2.2.1, h.2.2.2.drew⟩
theorem KR.cells {w W : World} {g3 c3 m G n : Nat} {pre : List Rn} {x y : Cl} (h : KR w g3 c3 m G pre x n y W) :
    (W.cell? ⟨g3, m * 4, none⟩ = some (.int .i32 x.g) ∧ W.cell? ⟨g3, m * 4 + 1, none⟩ = some (.int .u8 x.r) ∧ W.cell? ⟨g3, m * 4 + 2, none⟩ = some (.bool x.k) ∧ W.cell? ⟨g3, m * 4 + 3, none⟩ = some (.int .i64 n)) ∧
    W.cell? ⟨G, 0, none⟩ = some (.int .i32 y.g) ∧ W.cell? ⟨G, 1, none⟩ = some (.int .u8 y.r) ∧ W.cell? ⟨G, 2, none⟩ = some (.bool y.k) := by
  obtain ⟨a, b, c, d, _⟩ := oruns_lastcell h.1 h.2.1
  exact ⟨⟨a, b, c, d⟩, h.2.2.1.cell 0, h.2.2.1.cell 1, h.2.2.1.cell 2⟩

theorem oruns_own {w W : World} {g3 c3 m G n : Nat} {pre : List Rn} {x y : Cl} (h : KR w g3 c3 m G pre x n y W) : W.ownsRow w.heap.size 48 4 (.slice (some ⟨g3, 0, none⟩) (m + 1) c3) (m + 1) ((pre ++ [(x, n)]).flatMap Rn.cells) := by
  have := h.2.1
  unfold ORuns at this
  rwa [show (pre ++ [(x, n)]).length = m + 1 from by simp [h.1]] at this
theorem oruns_more {w : World} {base m n : Nat} {pre : List Rn} {x y : Cl} {v : Value} (hm : pre.length = m) (h : w.ownsRow base 48 4 v (m + 1 + 1) ((pre ++ [(x, n)]).flatMap Rn.cells ++ [.int .i32 y.g, .int .u8 y.r, .bool y.k, .int .i64 0])) :
    ORuns w base v ((pre ++ [(x, n)]) ++ [(y, 0)]) := by
  subst hm
  simpa [ORuns, Rn.cells] using h
theorem oruns_head2 {w : World} {base m n : Nat} {pre : List Rn} {x y : Cl} {v : Value} (hm : pre.length = m) (h : ORuns w base v ((pre ++ [(x, n)]) ++ [(y, 0)])) : ∃ g c, v = .slice (some ⟨g, 0, none⟩) (m + 1 + 1) c ∧ base ≤ g ∧ g < w.heap.size := by
  obtain ⟨g, c, hv, h1, h2⟩ := oruns_head h (by simp)
  exact ⟨g, c, by rw [hv]; simp [hm], h1, h2⟩
theorem oruns_len {w : World} {base m n g c : Nat} {pre : List Rn} {x : Cl} (_ : pre.length = m) (h : ORuns w base (.slice (some ⟨g, 0, none⟩) (m + 1) c) (pre ++ [(x, n)])) : ORuns w base (.slice (some ⟨g, 0, none⟩) (m + 1) c) (pre ++ [(x, n)]) := h

set_option maxHeartbeats 4000000 in
theorem runs_any (A : Option Addr) (c : Nat) (l : List Cl) (hl : l.length ≤ 100000) (hok : OkCells l) (w : World) (hr : RCells w A l) :
    Calls Tryd.prog 20 #[.slice A l.length c] w fun e w' => ∃ v, e = .returned v ∧ ORuns w' w.heap.size v (runsL l) ∧ Below w.heap.size w w' := by
  have HOk := Lib.hid hok
  go_enter Tryd.func20, Tryd.ntmps20
  go_wp2_with fail
  go_loopw [3, 9] (fun s i wr => ∃ k : Nat, k ≤ l.length ∧ i = .int .i64 k ∧ ORuns wr w.heap.size s (runsL (l.take k)) ∧ Below w.heap.size w wr) (fun _ i _ => l.length - (intOf i).toNat)
  case atStart => exact ⟨0, by omega, rfl, World.ownsRow_nil _ _ _ _, Below.refl _ _⟩
  case round =>
    obtain ⟨k, hk, rfl, hown, hb⟩ := hrel
    by_cases hlt : k < l.length
    · obtain ⟨ad, rfl, hbd, hc0, hc1, hc2⟩ := (hr.next hb).at_ hlt
      have HS := Lib.hid (runsL_snoc l k hlt)
      have hrl := (runsL_ok (l.take k) (fun x hx => hok x (List.mem_of_mem_take hx))).2.2
      have hro := (runsL_ok (l.take k) (fun x hx => hok x (List.mem_of_mem_take hx))).1
      have hlen : (runsL (l.take k)).length ≤ 100000 := by rw [List.length_take] at hrl; omega
      clear hrl hok
      generalize runsL (l.take k) = rs at *
      generalize l[k] = cl at *
      obtain ⟨g, r, b⟩ := cl
      simp only at hc0 hc1 hc2
      obtain ⟨A3, c3, rfl⟩ := oruns_form hown
      have hb0 : Below w.heap.size w (wr.alloc (.cells #[.int .i32 g, .int .u8 r, .bool b] 42)) := hb.alloc hb.size _
      have ho0 : ORuns (wr.alloc (.cells #[.int .i32 g, .int .u8 r, .bool b] 42)) w.heap.size (.slice A3 rs.length c3) rs := World.ownsRow.alloc hown _
      have hB0 := Blk.new wr 42 #[.int .i32 g, .int .u8 r, .bool b]
      have hsz := hb.size
      by_cases h0 : rs = []
      · subst h0
        have HO := Lib.hid ho0; have HB := Lib.hid hb0; have HBl := Lib.hid hB0
        clear hown ho0 hb0 hB0
        go_upto_region 6 with fail
        go_quiet (fail)
        go_wp2_with (at_builtin; refine wpList_pushN rfl _ _ _ rfl w.heap.size 48 _ 4 16 Tryd.underlying45 info_run rfl (by decide) _ _ _ rfl (oruns_drewN HO.out _) [.int .i32 g, .int .u8 r, .bool b, .int .i64 0] rfl (run_one g r b 0) _ rfl _ _ _ (by simp) rfl (by unfold maxLen; simp) (by simp) (by simp; omega) ?_; intro v1 w1 hown1 hg1 hb1; obtain ⟨g1, c1, rfl, hge, _⟩ := oruns_head (l := [((⟨g, r, b⟩ : Cl), 0)]) (show ORuns w1 w.heap.size v1 [((⟨g, r, b⟩ : Cl), 0)] from hown1) (by simp); obtain ⟨n0, n1, n2, n3, nf⟩ := oruns_cell rfl (show ORuns w1 w.heap.size _ [((⟨g, r, b⟩ : Cl), 0)] from hown1) (k := 0) (by simp); have nf3 := nf 3; clear nf)
        go_roundw
        case rel => exact ⟨k + 1, by omega, by go_num, by rw [HS.out]; exact oruns_count (l := [((⟨g, r, b⟩ : Cl), 0)]) rfl hown1 0 (by simp) 1, ((below_drewN HB.out _).trans hb1).setCell hge _⟩
        case measure => simp [intOf]; omega
      · obtain ⟨pre, ⟨x, n⟩, rfl⟩ := list_end rs h0
        have hxo := (hro (x, n) (by simp)).2
        obtain ⟨g3, c3', hv, hg3, hg3l⟩ := oruns_head hown (by simp)
        simp only [Value.slice.injEq] at hv
        obtain ⟨rfl, -, rfl⟩ := hv
        have hll : (pre ++ [(x, n)]).length = pre.length + 1 := by simp
        rw [hll] at ho0
        obtain ⟨d0, d1, d2, d3, dz⟩ := oruns_lastcell rfl ho0
        have e0 : (wr.alloc (.cells #[.int .i32 g, .int .u8 r, .bool b] 42)).cell? ⟨wr.heap.size, 0, none⟩ = some (.int .i32 g) := hB0.cell 0
        have e1 : (wr.alloc (.cells #[.int .i32 g, .int .u8 r, .bool b] 42)).cell? ⟨wr.heap.size, 1, none⟩ = some (.int .u8 r) := hB0.cell 1
        have e2 : (wr.alloc (.cells #[.int .i32 g, .int .u8 r, .bool b] 42)).cell? ⟨wr.heap.size, 2, none⟩ = some (.bool b) := hB0.cell 2
        have hlt3 : g3 < wr.heap.size := hg3l
        have hp : decide ((pre.length : Int) < 0) = false := by simp
        have hplen : pre.length < 100000 := by rw [hll] at hlen; omega
        have HT := Lib.hid (fun W => takes_any x ⟨g, r, b⟩ n W)
        have HY := Lib.hid (addR_yes pre x ⟨g, r, b⟩ n)
        have HN := Lib.hid (addR_no pre x ⟨g, r, b⟩ n)
        have HK : Hid (KR w g3 c3 pre.length wr.heap.size pre x n ⟨g, r, b⟩ (wr.alloc (.cells #[.int .i32 g, .int .u8 r, .bool b] 42))) := Lib.hid ⟨rfl, ho0, hB0, hb0⟩
        clear hown ho0 hb0 hB0 h0 hro hlen
        generalize takesC n x ⟨g, r, b⟩ = E at *
        obtain ⟨xg, xr, xk⟩ := x
        simp only at d0 d1 d2 d3
        rw [hll]
        generalize pre.length = m at *
        clear hll dz
        have hm0 : (0 : Int) ≤ (m : Int) := Int.natCast_nonneg _
        have hm1 : (m : Int) < (m : Int) + 1 := by omega
        go_upto_region 6 with fail
        generalize wr.alloc (Obj.cells #[Value.int .i32 g, Value.int .u8 r, Value.bool b] 42) = W at *
        generalize wr.heap.size = G at *
        first
          | (go_region_held3 (fun w' => (w'.cell? ⟨g3, m * 4, none⟩ = some (.int .i32 xg) ∧ w'.cell? ⟨g3, m * 4 + 1, none⟩ = some (.int .u8 xr) ∧ w'.cell? ⟨g3, m * 4 + 2, none⟩ = some (.bool xk) ∧ w'.cell? ⟨g3, m * 4 + 3, none⟩ = some (.int .i64 n)) ∧ w'.cell? ⟨G, 0, none⟩ = some (.int .i32 g) ∧ w'.cell? ⟨G, 1, none⟩ = some (.int .u8 r) ∧ w'.cell? ⟨G, 2, none⟩ = some (.bool b)) (first | go_keep | exact KR.cells ‹KR w _ _ _ _ _ _ _ _ w1›)
              (first | (go_at_call 23; refine (HT.out _).mono ?_; rintro e w1 ⟨rfl, hb1⟩; have L1 : KR w g3 c3 m G pre ⟨xg, xr, xk⟩ n ⟨g, r, b⟩ w1 := KR.next (by first | exact HK.out | exact HK.out.drew) hb1)))
          | fail "region 6"
        clear d0 d1 d2 d3 e0 e1 e2
        obtain ⟨⟨d0, d1, d2, d3⟩, e0, e1, e2⟩ := KR.cells L1
        have z3 := (oruns_lastcell L1.1 L1.2.1).2.2.2.2 (m * 4 + 3)
        obtain ⟨hx1, hx2⟩ := hxo
        cases E
        · have Ls := L1.2.2.2.size
          go_wp2_with (at_builtin; refine wpList_pushN rfl _ _ _ rfl w.heap.size 48 _ 4 16 Tryd.underlying45 info_run rfl (by decide) _ _ _ rfl (oruns_own L1) [.int .i32 g, .int .u8 r, .bool b, .int .i64 0] rfl (run_one g r b 0) _ rfl _ _ _ (by simp) rfl (by unfold maxLen; omega) (by omega) (by first | exact Ls | (simp; exact Ls)) ?_; intro v2 w2 hown2 hg2 hb2; have ho2 : ORuns w2 w.heap.size v2 ((pre ++ [((⟨xg, xr, xk⟩ : Cl), n)]) ++ [((⟨g, r, b⟩ : Cl), 0)]) := oruns_more L1.1 hown2; obtain ⟨g4, c4, rfl, hge, _⟩ := oruns_head2 L1.1 ho2; obtain ⟨n0, n1, n2, n3, nf⟩ := oruns_lastcell (by simp [L1.1]) ho2; have nf3 := nf ((m + 1) * 4 + 3); clear nf)
          have hbw : Below w.heap.size w w2 := by first | exact L1.2.2.2.trans hb2 | exact L1.drew.2.2.2.trans hb2
          go_roundw
          case rel =>
            refine ⟨k + 1, by omega, by go_num, ?_, hbw.setCell hge _⟩
            rw [HS.out, HN.out rfl]
            exact oruns_lastcount (by simp [L1.1]) ho2 1
          case measure => simp [intOf]; omega
        · go_wp2_with fail
          go_roundw
          case rel =>
            refine ⟨k + 1, by omega, by go_num, ?_, ?_⟩
            · rw [HS.out, HY.out rfl]
              first | exact oruns_len L1.1 (oruns_lastcount L1.1 L1.2.1 (n + 1)) | exact oruns_len L1.1 (oruns_lastcount L1.1 L1.drew.2.1 (n + 1))
            · first | exact L1.2.2.2.setCell hg3 _ | exact L1.drew.2.2.2.setCell hg3 _
          case measure => simp [intOf]; omega
    · obtain rfl : k = l.length := by omega
      rw [List.take_length] at hown
      go_wp2
      go_ret
      exact ⟨_, rfl, hown, hb⟩
end Go.Proofs.YtgndjonalhdhkaaDoor

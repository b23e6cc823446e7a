/-
  A parser that stands outside is as it was at first; a parser that is copied.
  Tokens whose numbers and bytes are turned in their places.
-/
import Derived.Test.YtpiliicphoacfaaPrfR
namespace Go.Proofs.Ytpiliicphoacfaa

open Go Go.RowKit

/-- Where nothing is begun, nothing is left. -/
def Zs (s : Ps) : Prop := s.pl = 0 → s = ps0
theorem Zne {s : Ps} (h : s.pl ≠ 0) : Zs s := fun e => absurd e h
theorem Z0 : Zs ps0 := fun _ => rfl
theorem Z_code (s : Ps) (c : Nat) : Zs (takeCodeP s c).1 := by
  unfold takeCodeP
  split
  · exact Zne (by show (6 : Int) ≠ 0; decide)
  · exact Z0
theorem Z_inters (s : Ps) (h : s.pl ≠ 0) (c : Nat) : Zs (takeIntersP s c).1 := by
  unfold takeIntersP
  split
  · exact Z_code s c
  · split
    · exact Zne (by show (takeInterP _ _).pl ≠ 0; rw [pl_inter]; show (5 : Int) ≠ 0; decide)
    · exact Zne h
theorem Z_numbers (s : Ps) (h : s.pl ≠ 0) (c : Nat) : Zs (takeNumbersP s c).1 := by
  unfold takeNumbersP
  split
  · exact Zne h
  · exact Z_inters s h c
theorem Z_first (s : Ps) (c : Nat) : Zs (takeFirstP s c).1 := by
  unfold takeFirstP
  split
  · exact Zne (by show (4 : Int) ≠ 0; decide)
  · exact Z_numbers _ (by show (4 : Int) ≠ 0; decide) c
theorem Z_escI (s : Ps) (c : Nat) : Zs (takeEscIntersP s c).1 := by
  unfold takeEscIntersP
  split
  · exact Zne (by show (takeInterP _ _).pl ≠ 0; rw [pl_inter]; show (2 : Int) ≠ 0; decide)
  · exact Z_code s c
theorem Z_esc (s : Ps) (c : Nat) : Zs (takeEscapedP s c).1 := by
  unfold takeEscapedP
  split; exact Zne (by show (3 : Int) ≠ 0; decide)
  split; exact Zne (by show (3 : Int) ≠ 0; decide)
  split; exact Zne (by show (6 : Int) ≠ 0; decide)
  split; exact Zne (by show (6 : Int) ≠ 0; decide)
  split; exact Zne (by show (6 : Int) ≠ 0; decide)
  split; exact Zne (by show (6 : Int) ≠ 0; decide)
  split; exact Z0
  exact Z_escI s c
theorem Z_step (s : Ps) (h : s.pl ≠ 0) (c : Nat) : Zs (stepP s c).1 := by
  unfold stepP
  split; exact Z_esc _ _
  split; exact Z_escI _ _
  split; exact Z_first _ _
  split; exact Z_numbers _ h _
  exact Z_inters _ h _
theorem Z_beg : Zs begP := Zne (by show (1 : Int) ≠ 0; decide)
theorem Z_pl (s : Ps) (hz : Zs s) (c : Nat) : Zs (takePl s c).1 := by
  unfold takePl
  split
  · unfold takeOutsideP
    split; exact Z_beg
    split; exact hz
    split; exact hz
    exact hz
  · rename_i h0
    split
    · unfold takeTextP
      split; exact Zne (by show (7 : Int) ≠ 0; decide)
      split; exact Z0
      split; exact Zne (by show (holdP _ _).pl ≠ 0; rw [pl_hold]; exact h0)
      exact hz
    · unfold takeWithinP
      split; exact Z_beg
      split; exact hz
      split; exact hz
      exact Z_step s h0 _
theorem Z_take (s : Ps) (hz : Zs s) (c : Nat) : Zs (takeP s c).1 := by
  have h0 : ∀ s, Zs s → Zs (takeP0 s c).1 := fun s hz => by
    unfold takeP0
    split
    · exact Z_pl ps0 Z0 c
    · exact Z_pl s hz c
  unfold takeP
  split
  · unfold takeTextEscapeP
    split
    · exact Z0
    · exact h0 begP Z_beg
  · exact h0 s hz
theorem Z_run (l : List Nat) : ∀ s, Zs s → Zs (runQ s l).1 := by
  induction l with
  | nil => intro s hz; exact hz
  | cons c l ih => intro s hz; rw [run_cons]; exact ih _ (Z_take s hz c)
theorem Z_feed (ns : List Nat) : Zs (feedL ps0 ns).1 := by rw [feedL_run]; exact Z_run _ _ Z0
theorem psU : Try.prog.underlying 35 = some (.struct (Try.prog.fieldsOf 35)) := by kernel_rfl
theorem psS : (Try.prog.info? 35).map (·.size) = some 4136 := by kernel_rfl
theorem cells_one (s : Ps) : s.cells.toArray.all (·.oneCell') = true := by
  rw [Array.all_eq_true_iff_forall_mem]
  intro v hv
  simp only [List.mem_toArray] at hv
  unfold Ps.cells at hv
  rcases List.mem_append.1 hv with hv | hv
  · unfold Ps.beg Ps.acc at hv
    simp only [List.mem_cons, List.mem_append, List.mem_map, List.not_mem_nil, or_false] at hv
    rcases hv with rfl | rfl | rfl | rfl | rfl | rfl | rfl | hv
    · rfl
    · rfl
    · rfl
    · rfl
    · rfl
    · rfl
    · rfl
    · rcases hv with (⟨x, _, rfl⟩ | rfl) | (rfl | rfl) <;> rfl
  · unfold Ps.dat at hv
    rcases List.mem_append.1 hv with hv | hv
    · obtain ⟨x, _, rfl⟩ := List.mem_map.1 hv
      rfl
    · rw [List.eq_of_mem_replicate hv]; rfl
set_option maxRecDepth 100000 in
set_option maxHeartbeats 4000000 in
theorem cloneP_any (g : Nat) (s : Ps) (w : World) (h : PsB w g s) :
    Calls Try.prog 14 #[.pointer (some ⟨g, 0, none⟩)] w fun e w' => e = .returned (.pointer (some ⟨w.heap.size, 0, none⟩)) ∧ PsB w' w.heap.size s ∧ Below w.heap.size w w' := by
  have hsz : (Try.prog.info? 35).map (·.size) = some s.cells.toArray.size := by
    rw [show s.cells.toArray.size = 4136 by simpa using cells_len s h.ok.ds]; exact psS
  have HS := Lib.hid hsz
  have HZ : Hid (ps0.cells.toArray.size = s.cells.toArray.size) := Lib.hid (by
    rw [show s.cells.toArray.size = 4136 by simpa using cells_len s h.ok.ds]
    simpa using cells_len ps0 ps0_ok.ds)
  have HO := Lib.hid (cells_one s)
  have HB := Lib.hid h.blk
  have HK := Lib.hid h.ok
  clear h hsz
  have HE : Hid (∀ W, Blk W w.heap.size 35 s.cells.toArray → PsB W w.heap.size s) := Lib.hid (fun W h => ⟨h, HK.out⟩)
  generalize s.cells.toArray = X at *
  go_enter Try.func14, Try.ntmps14
  go_wp2_with (first
    | (refine wpList_load_row rfl _ _ rfl g rfl _ X (0, 0) _ HB.out psU rfl HS.out ?_)
    | (refine wpList_alloc_ps rfl rfl ?_)
    | (refine wpList_store_row rfl _ _ _ rfl w.heap.size X rfl rfl _ _ (Blk.new _ _ _) HS.out HZ.out HO.out ?_))
  go_ret
  exact ⟨rfl, HE.out _ (setRow_heap _ _ _ _ _ _ (Blk.new _ _ _)), below_gb ((Below.refl _ _).alloc (Nat.le_refl _) _) (grown_row _ _ _) (Nat.le_refl _) (by simp)⟩
theorem OTr.keep {w w' : World} {base : Nat} {v : Value} {ts : List Tok} {row : Option Nat} (h : OTr w base v ts) (hg : w.grownBy w' row) (hr : ∀ k, row = some k → k < base) : OTr w' base v ts := by
  obtain ⟨xs, h1, h2⟩ := h
  refine ⟨xs, World.ownsRow.kept (row := row) h1 hg ?_, h2.keep hg hr⟩
  rcases hk : v.ownBlock with _ | k
  · exact .inl rfl
  · right; intro e; have q1 := (World.ownsRow.lt h1 k hk).1; have q2 := hr k e.symm; omega
theorem refSplitO_any (A : Option Addr) (cap : Nat) (ns : List Nat) (hn : ∀ x ∈ ns, x < 256) (hl : ns.length ≤ 200000) (w : World) (hr : RByt w A ns) :
    Calls Try.prog 13 #[.slice A ns.length cap] w (fun e w' => (∃ A' c', e = .returned (.tuple #[.slice A' (feedL ps0 ns).2.length c', .bool !((feedL ps0 ns).1.pl == 0)]) ∧ OTr w' w.heap.size (.slice A' (feedL ps0 ns).2.length c') (feedL ps0 ns).2) ∧ Below w.heap.size w w') := by
  refine (refSplit_any A cap ns hn hl w hr).mono ?_
  rintro e w' ⟨⟨v, rfl, ho⟩, hb⟩
  have hf := feed_split ns hn
  rw [← hf.1] at ho
  obtain ⟨A', c', rfl, hr'⟩ := ho.reads
  exact ⟨⟨A', c', by rw [hf.2, Bool.not_not], ho⟩, hb⟩
/-- A parser's box, where another block is turned. -/
theorem PsB.other {w w' : World} {g k : Nat} {s : Ps} (h : PsB w g s) (hg : w.grownBy w' (some k)) (hne : g ≠ k) : PsB w' g s := ⟨(hg.block g h.lt (by simp; omega)).trans h.blk, h.ok⟩
/-- .. where a list is grown. -/
theorem PsB.list {w w' : World} {g b n sz : Nat} {T : TypeId} {s : Ps} {v : Value} {xs : List Value} (h : PsB w g s) (ho : w.ownsRow b T sz v n xs) (hT : T ≠ 35) (hg : w.grownBy w' v.ownBlock) : PsB w' g s :=
  ⟨(hg.block g h.lt (fun e => own_ty ho h.blk hT e.symm)).trans h.blk, h.ok⟩
theorem OTl.box {w w' : World} {base g : Nat} {cs : Array Value} (hb : Blk w g 35 cs) (hg : w.grownBy w' (some g)) : ∀ {xs : List (Array Value)} {ts : List Tok}, OTl w base xs ts → OTl w' base xs ts
  | [], [], _ => trivial
  | _ :: _, _ :: _, h => by
    obtain ⟨⟨A, c, B, d, e, h1, h2⟩, h3⟩ := h
    exact ⟨⟨A, c, B, d, e, World.ownsRow.kept (oints_own h1) hg (.inr (own_ty (oints_own h1) hb (by decide))), World.ownsRow.kept h2 hg (.inr (own_ty h2 hb (by decide)))⟩, OTl.box hb hg h3⟩
/-- A list of tokens, where a parser's box is turned. -/
theorem OTks.box {w w' : World} {base g : Nat} {cs : Array Value} {v : Value} {ts : List Tok} (h : OTks w base v ts) (hb : Blk w g 35 cs) (hg : w.grownBy w' (some g)) : OTks w' base v ts := by
  obtain ⟨xs, h1, h2⟩ := h
  exact ⟨xs, World.ownsRow.kept h1 hg (.inr (own_ty h1 hb (by decide))), h2.box hb hg⟩
theorem rbyt_row {w W : World} {A : Option Addr} {ns : List Nat} {row : Option Nat} (h : RByt w A ns) (hg : w.grownBy W row) (hA : ∀ ad, 0 < ns.length → A = some ad → row ≠ some ad.block) : RByt W A ns := by
  refine ⟨h.1, fun hn => ?_⟩
  obtain ⟨ad, rfl, hb, hc⟩ := h.2 hn
  refine ⟨ad, rfl, Nat.lt_of_lt_of_le hb hg.size, fun j u hu => ?_⟩
  have hk := hg.block ad.block hb (fun e => hA ad hn rfl e.symm)
  have := hc j u hu
  unfold World.cell? at this ⊢
  rw [add_blk] at this ⊢
  rw [hk]
  exact this
end Go.Proofs.Ytpiliicphoacfaa

namespace Go.Proofs.Ytpiliicphoacfaa
open Go Go.RowKit

/-- A row of one's own whose cells are ints of a kind, whatever they are. -/
def OZ (kd : IntKind) (T : TypeId) (W : World) (base : Nat) (v : Value) (n : Nat) : Prop := ∃ zs : List Int, W.ownsRow base T 1 v n (zs.map (Value.int kd))
theorem own_blkT {w : World} {b n sz c g : Nat} {U : TypeId} {ys : List Value} (h : w.ownsRow b U sz (.slice (some ⟨g, 0, none⟩) n c) n ys) : b ≤ g ∧ ∃ cur, Blk w g U cur := by
  rcases h.2 with ⟨e, _⟩ | ⟨g1, cap, cur, e, hb, hg, _⟩
  · cases e
  · cases e
    exact ⟨hb, cur, hg⟩
theorem OZ.set {kd : IntKind} {T U : TypeId} {W : World} {base b g m c k n : Nat} {v : Value} {ys : List Value} (h : OZ kd T W base v n) (ho : W.ownsRow b U 1 (.slice (some ⟨g, 0, none⟩) m c) m ys) (u : Value) (hu : U = T → ∃ z, u = .int kd z) :
    OZ kd T (W.setCell ⟨g, k, none⟩ u) base v n := by
  obtain ⟨zs, hz⟩ := h
  have hg := (ho.stored k u).2
  obtain ⟨_, cur, hblk⟩ := own_blkT ho
  by_cases hk : v.ownBlock = some g
  · obtain ⟨A, cc, rfl⟩ := own_formS hz
    rcases hz.2 with ⟨e, _⟩ | ⟨g1, cap, cur1, e, hb1, hg1, r⟩
    · rw [e] at hk; simp [Value.ownBlock] at hk
    · cases e
      obtain rfl : g1 = g := by simpa [Value.ownBlock] using hk
      rw [show W.heap[g1]? = some (.cells cur U (0, 0)) from hblk] at hg1
      injection hg1 with hg1
      injection hg1 with _ hg1 _
      obtain ⟨z, rfl⟩ := hu hg1
      refine ⟨zs.set k z, ?_⟩
      rw [List.map_set]
      exact (hz.stored k (.int kd z)).1
  · exact ⟨zs, World.ownsRow.kept (row := some g) hz hg (.inr hk)⟩
def OTz (W : World) (base : Nat) : List (Array Value) → List Tok → Prop
  | [], [] => True
  | x :: xs, t :: ts => (∃ A c B d, x = t.cs A c B d ∧ OZ .i64 3 W base (.slice A t.ps.length c) t.ps.length ∧ OZ .u8 5 W base (.slice B t.dt.length d) t.dt.length) ∧ OTz W base xs ts
  | _, _ => False
theorem OTz.of_own {w : World} {base : Nat} : ∀ {xs : List (Array Value)} {ts : List Tok}, OTl w base xs ts → OTz w base xs ts
  | [], [], _ => trivial
  | _ :: _, t :: _, h => by
    obtain ⟨⟨A, c, B, d, e, h1, h2⟩, h3⟩ := h
    injection e with e
    exact ⟨⟨A, c, B, d, e, ⟨_, oints_own h1⟩, ⟨t.dt.map (fun n : Nat => (n : Int)), by rw [List.map_map]; exact obyt_own h2⟩⟩, OTz.of_own h3⟩
theorem OTz.set {U : TypeId} {W : World} {base b g m c k : Nat} {ys : List Value} (ho : W.ownsRow b U 1 (.slice (some ⟨g, 0, none⟩) m c) m ys) (u : Value) (h1 : U = 3 → ∃ z, u = .int .i64 z) (h2 : U = 5 → ∃ z, u = .int .u8 z) :
    ∀ {xs : List (Array Value)} {ts : List Tok}, OTz W base xs ts → OTz (W.setCell ⟨g, k, none⟩ u) base xs ts
  | [], [], _ => trivial
  | _ :: _, _ :: _, h => by
    obtain ⟨⟨A, c, B, d, e, q1, q2⟩, q3⟩ := h
    exact ⟨⟨A, c, B, d, e, q1.set ho u h1, q2.set ho u h2⟩, OTz.set ho u h1 h2 q3⟩
theorem otz_at : ∀ {w : World} {base : Nat} {xs : List (Array Value)} {ts : List Tok} (_ : OTz w base xs ts) (k : Nat) (hk : k < ts.length), ∃ A c B d, (∀ (w' : World) , OTz w' base xs ts → OZ .i64 3 w' base (.slice A ts[k].ps.length c) ts[k].ps.length ∧ OZ .u8 5 w' base (.slice B ts[k].dt.length d) ts[k].dt.length) ∧ ∀ j u, (ts[k].cs A c B d)[j]? = some u → (xs.flatMap Array.toList)[k * 6 + j]? = some u
  | _, _, [], [], _, k, hk => by simp at hk
  | w, base, x :: xs, t :: ts, h, 0, _ => by
    obtain ⟨⟨A, c, B, d, e, h1, h2⟩, h3⟩ := h
    subst e
    refine ⟨A, c, B, d, fun w' hw => ?_, fun j u hu => ?_⟩
    · obtain ⟨⟨A', c', B', d', e', q1, q2⟩, _⟩ := hw
      simp only [Tok.cs, Array.mk.injEq, List.cons.injEq, Value.slice.injEq, true_and, and_true] at e'
      obtain ⟨⟨rfl, rfl⟩, ⟨rfl, rfl⟩⟩ := e'
      exact ⟨q1, q2⟩
    · have hj : j < 6 := by
        have := (Array.getElem?_eq_some_iff.1 hu).1
        simpa [Tok.cs] using this
      rw [List.flatMap_cons, Nat.zero_mul, Nat.zero_add, List.getElem?_append_left (by simpa [Tok.cs] using hj)]
      simpa using hu
  | w, base, x :: xs, t :: ts, h, k + 1, hk => by
    obtain ⟨⟨A, c, B, d, e, h1, h2⟩, h3⟩ := h
    obtain ⟨A', c', B', d', g1, g3⟩ := otz_at h3 k (by simpa using hk)
    refine ⟨A', c', B', d', fun w' hw => g1 w' hw.2, fun j u hu => ?_⟩
    rw [List.flatMap_cons, List.getElem?_append_right (by subst e; simp [Tok.cs]; omega)]
    have hx : x.toList.length = 6 := by subst e; simp [Tok.cs]
    rw [hx, show (k + 1) * 6 + j - 6 = k * 6 + j from by omega]
    exact g3 j u hu
/-- What is known while the tokens are turned. -/
structure KP (W0 : World) (base : Nat) (v : Value) (xs : List (Array Value)) (ts : List Tok) (W : World) : Prop where
  lst : W.ownsRow base 27 6 v ts.length (xs.flatMap Array.toList)
  tk : OTz W base xs ts
  low : Below base W0 W
  sz : base ≤ W.heap.size
theorem KP.of {W : World} {base : Nat} {v : Value} {ts : List Tok} (h : OTks W base v ts) (hs : base ≤ W.heap.size) : ∃ xs, KP W base v xs ts W := by
  obtain ⟨xs, h1, h2⟩ := h
  exact ⟨xs, h1, .of_own h2, Below.refl _ _, hs⟩
theorem KP.set {W0 W : World} {base g m c k : Nat} {v : Value} {xs : List (Array Value)} {ts : List Tok} {U : TypeId} {ys : List Value} (h : KP W0 base v xs ts W) (ho : W.ownsRow base U 1 (.slice (some ⟨g, 0, none⟩) m c) m ys) (u : Value) (hU : U ≠ 27) (h1 : U = 3 → ∃ z, u = .int .i64 z) (h2 : U = 5 → ∃ z, u = .int .u8 z) :
    KP W0 base v xs ts (W.setCell ⟨g, k, none⟩ u) := by
  have hg := (ho.stored k u).2
  obtain ⟨hb, cur, hblk⟩ := own_blkT ho
  exact ⟨World.ownsRow.kept (row := some g) h.lst hg (.inr (own_ty h.lst hblk hU.symm)), h.tk.set ho u h1 h2, below_row h.low hg (fun k e => by cases e; exact hb) h.sz, Nat.le_trans h.sz hg.size⟩
theorem KP.next {W0 W W' : World} {base : Nat} {v : Value} {xs : List (Array Value)} {ts : List Tok} (h : KP W0 base v xs ts W) (hb : Below W.heap.size W W') : KP W0 base v xs ts W' := by
  have hk : ∀ {T : TypeId} {n sz : Nat} {u : Value} {ys : List Value}, W.ownsRow base T sz u n ys → W'.ownsRow base T sz u n ys := fun h => own_more h hb
  have ht : ∀ {xs : List (Array Value)} {ts : List Tok}, OTz W base xs ts → OTz W' base xs ts := by
    intro xs
    induction xs with
    | nil => intro ts h; cases ts with
      | nil => trivial
      | cons _ _ => exact h
    | cons x xs ih => intro ts h; cases ts with
      | nil => exact h
      | cons t ts =>
        obtain ⟨⟨A, c, B, d, e, ⟨z1, q1⟩, ⟨z2, q2⟩⟩, q3⟩ := h
        exact ⟨⟨A, c, B, d, e, ⟨z1, hk q1⟩, ⟨z2, hk q2⟩⟩, ih q3⟩
  exact ⟨hk h.lst, ht h.tk, h.low.trans (hb.mono h.sz), Nat.le_trans h.sz hb.size⟩
/-- A cell of a row of one's own, to be turned. -/
theorem OZ.cell {kd : IntKind} {T : TypeId} {W : World} {base n c : Nat} {A : Option Addr} (h : OZ kd T W base (.slice A n c) n) {i : Nat} (hi : i < n) :
    ∃ g z ys, A = some ⟨g, 0, none⟩ ∧ W.cell? ⟨g, i, none⟩ = some (.int kd z) ∧ W.frozen? ⟨g, i, none⟩ = false ∧ W.ownsRow base T 1 (.slice (some ⟨g, 0, none⟩) n c) n ys := by
  obtain ⟨zs, ho⟩ := h
  have hlen : zs.length = n := by have := ho.1; simpa using this
  obtain ⟨g, cap, hv⟩ : ∃ g cap, (Value.slice A n c) = .slice (some ⟨g, 0, none⟩) n cap := by
    rcases ho.2 with ⟨_, h0⟩ | ⟨g, cap, _, hv, _⟩
    · omega
    · exact ⟨g, cap, hv⟩
  cases hv
  refine ⟨g, zs[i], _, rfl, ?_, ho.frozenAt i, ho⟩
  rw [ho.cellAt i (by omega)]
  simp [hlen, hi]
/-- A token of the list. -/
theorem KP.at_ {W0 W : World} {base : Nat} {A : Option Addr} {n : Nat} {xs : List (Array Value)} {ts : List Tok} (h : KP W0 base (.slice A ts.length n) xs ts W) {k : Nat} (hk : k < ts.length) : ∃ ad P pc D dc, A = some ad ∧
    (∀ W', KP W0 base (.slice A ts.length n) xs ts W' → OZ .i64 3 W' base (.slice P ts[k].ps.length pc) ts[k].ps.length ∧ OZ .u8 5 W' base (.slice D ts[k].dt.length dc) ts[k].dt.length) ∧
    W.cell? (ad.add (k * 6)) = some (.int .i64 ts[k].kd) ∧ W.cell? ⟨(ad.add (k * 6)).block, (ad.add (k * 6)).off + 1, none⟩ = some (.int .u8 (ts[k].cd : Int)) ∧ W.cell? ⟨(ad.add (k * 6)).block, (ad.add (k * 6)).off + 2, none⟩ = some (.int .u8 (ts[k].mr : Int)) ∧
    W.cell? ⟨(ad.add (k * 6)).block, (ad.add (k * 6)).off + 3, none⟩ = some (.slice P ts[k].ps.length pc) ∧ W.cell? ⟨(ad.add (k * 6)).block, (ad.add (k * 6)).off + 4, none⟩ = some (.string ts[k].it) ∧ W.cell? ⟨(ad.add (k * 6)).block, (ad.add (k * 6)).off + 5, none⟩ = some (.slice D ts[k].dt.length dc) := by
  obtain ⟨ad, rfl, hb, hc⟩ := (Reads.of_own h.lst).2 (by omega)
  obtain ⟨P, pc, D, dc, g1, g3⟩ := otz_at h.tk k hk
  have a1 : (⟨(ad.add (k * 6)).block, (ad.add (k * 6)).off + 1, none⟩ : Addr) = ad.add (k * 6 + 1) := (show _ = (ad.add (k * 6)).add 1 from rfl).trans (add_of_add ad _ _)
  have a2 : (⟨(ad.add (k * 6)).block, (ad.add (k * 6)).off + 2, none⟩ : Addr) = ad.add (k * 6 + 2) := (show _ = (ad.add (k * 6)).add 2 from rfl).trans (add_of_add ad _ _)
  have a3 : (⟨(ad.add (k * 6)).block, (ad.add (k * 6)).off + 3, none⟩ : Addr) = ad.add (k * 6 + 3) := (show _ = (ad.add (k * 6)).add 3 from rfl).trans (add_of_add ad _ _)
  have a4 : (⟨(ad.add (k * 6)).block, (ad.add (k * 6)).off + 4, none⟩ : Addr) = ad.add (k * 6 + 4) := (show _ = (ad.add (k * 6)).add 4 from rfl).trans (add_of_add ad _ _)
  have a5 : (⟨(ad.add (k * 6)).block, (ad.add (k * 6)).off + 5, none⟩ : Addr) = ad.add (k * 6 + 5) := (show _ = (ad.add (k * 6)).add 5 from rfl).trans (add_of_add ad _ _)
  refine ⟨ad, P, pc, D, dc, rfl, fun W' h' => g1 W' h'.tk, ?_⟩
  rw [a1, a2, a3, a4, a5]
  exact ⟨hc _ _ (g3 0 _ rfl), hc _ _ (g3 1 _ rfl), hc _ _ (g3 2 _ rfl), hc _ _ (g3 3 _ rfl), hc _ _ (g3 4 _ rfl), hc _ _ (g3 5 _ rfl)⟩
/-- One's own bytes, while they are turned. -/
structure ZP (W0 : World) (base : Nat) (A : Option Addr) (c n : Nat) (W : World) : Prop where
  own : OZ .u8 5 W base (.slice A n c) n
  gro : W0.grownBy W (Value.slice A n c).ownBlock
theorem ZP.step {W0 W : World} {base c n : Nat} {A : Option Addr} (h : ZP W0 base A c n W) {i : Nat} (hi : i < n) : ∃ g z, A = some ⟨g, 0, none⟩ ∧ W.cell? ⟨g, i, none⟩ = some (.int .u8 z) ∧ W.frozen? ⟨g, i, none⟩ = false ∧ ∀ z', ZP W0 base A c n (W.setCell ⟨g, i, none⟩ (.int .u8 z')) := by
  obtain ⟨g, z, ys, rfl, q1, q2, ho⟩ := h.own.cell hi
  refine ⟨g, z, rfl, q1, q2, fun z' => ⟨h.own.set ho _ (fun _ => ⟨z', rfl⟩), ?_⟩⟩
  have hg := (ho.stored i (.int .u8 z')).2
  exact ⟨hg.os.trans h.gro.os, hg.tape.trans h.gro.tape, hg.output.trans h.gro.output, Nat.le_trans h.gro.size hg.size, fun k hk hn => (hg.block k (Nat.lt_of_lt_of_le hk h.gro.size) hn).trans (h.gro.block k hk hn)⟩
theorem OZ.max {kd : IntKind} {T : TypeId} {W : World} {base n c : Nat} {A : Option Addr} (h : OZ kd T W base (.slice A n c) n) : n ≤ 9223372036854775807 := by
  obtain ⟨zs, ho⟩ := h
  rcases ho.2 with ⟨_, h0⟩ | ⟨g, cap, cur, _, _, _, hnc, hcm, _⟩
  · omega
  · unfold maxLen at hcm; omega
theorem blk_set {W : World} {base g k gt m c : Nat} {U V : TypeId} {ys : List Value} {X : Array Value} (ho : W.ownsRow base U 1 (.slice (some ⟨g, 0, none⟩) m c) m ys) (hb : Blk W gt V X) (hUV : U ≠ V) (u : Value) : Blk (W.setCell ⟨g, k, none⟩ u) gt V X :=
  ((ho.stored k u).2.block gt hb.lt (fun e => own_ty ho hb hUV e.symm)).trans hb
/-- .. and a box of one token beside them. -/
structure KT (W0 : World) (base : Nat) (v : Value) (xs : List (Array Value)) (ts : List Tok) (gt : Nat) (X : Array Value) (W : World) : Prop where
  kp : KP W0 base v xs ts W
  box : Blk W gt 27 X
theorem KT.int {W0 W : World} {base gt n c i : Nat} {v : Value} {xs : List (Array Value)} {ts : List Tok} {X : Array Value} {A : Option Addr} (h : KT W0 base v xs ts gt X W) (hz : OZ .i64 3 W base (.slice A n c) n) (hi : i < n) :
    ∃ g z, A = some ⟨g, 0, none⟩ ∧ W.cell? ⟨g, i, none⟩ = some (.int .i64 z) ∧ W.frozen? ⟨g, i, none⟩ = false ∧ ∀ z', KT W0 base v xs ts gt X (W.setCell ⟨g, i, none⟩ (.int .i64 z')) := by
  obtain ⟨g, z, ys, rfl, q1, q2, ho⟩ := hz.cell hi
  exact ⟨g, z, rfl, q1, q2, fun z' => ⟨h.kp.set ho _ (by decide) (fun _ => ⟨z', rfl⟩) (fun e => absurd e (by decide)), blk_set ho h.box (by decide) _⟩⟩
theorem KT.byt {W0 W : World} {base gt n c i : Nat} {v : Value} {xs : List (Array Value)} {ts : List Tok} {X : Array Value} {A : Option Addr} (h : KT W0 base v xs ts gt X W) (hz : OZ .u8 5 W base (.slice A n c) n) (hi : i < n) :
    ∃ g z, A = some ⟨g, 0, none⟩ ∧ W.cell? ⟨g, i, none⟩ = some (.int .u8 z) ∧ W.frozen? ⟨g, i, none⟩ = false ∧ ∀ z', KT W0 base v xs ts gt X (W.setCell ⟨g, i, none⟩ (.int .u8 z')) := by
  obtain ⟨g, z, ys, rfl, q1, q2, ho⟩ := hz.cell hi
  exact ⟨g, z, rfl, q1, q2, fun z' => ⟨h.kp.set ho _ (by decide) (fun e => absurd e (by decide)) (fun _ => ⟨z', rfl⟩), blk_set ho h.box (by decide) _⟩⟩
theorem rbyt_low {w W : World} {A : Option Addr} {ns : List Nat} {base : Nat} (h : RByt w A ns) (hg : Below base w W) (hA : ∀ ad, 0 < ns.length → A = some ad → ad.block < base) : RByt W A ns := by
  refine ⟨h.1, fun hn => ?_⟩
  obtain ⟨ad, rfl, hb, hc⟩ := h.2 hn
  refine ⟨ad, rfl, Nat.lt_of_lt_of_le hb hg.size, fun j u hu => ?_⟩
  have hk := hg.block ad.block (hA ad hn rfl)
  have := hc j u hu
  unfold World.cell? at this ⊢
  rw [add_blk] at this ⊢
  rw [hk]
  exact this
theorem PsB.low {w W : World} {g base : Nat} {s : Ps} (h : PsB w g s) (hg : Below base w W) (hlt : g < base) : PsB W g s := ⟨(hg.block g hlt).trans h.blk, h.ok⟩
end Go.Proofs.Ytpiliicphoacfaa

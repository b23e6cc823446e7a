/-
  A parser that stands outside is as it was at first; a parser that is copied.
-/
import Derived.Test.YtdmiihmaijbkfaaPrfR
namespace Go.Proofs.Ytdmiihmaijbkfaa
open Go Go.RowKit

/-- Where nothing is begun, nothing is left. -/
def Zs (s : Ps) : Prop := s.pl = 0 → s = ps0
theorem Zne {s : Ps} (h : s.pl ≠ 0) : Zs s := fun e => absurd e h
theorem Z0 : Zs ps0 := fun _ => rfl
theorem Z_code (s : Ps) (c : Nat) : Zs (takeCodeP s c).1 := by
  unfold takeCodeP
  split
  · exact Zne (by show (6 : Int) ≠ 0; decide)
  · exact Z0
theorem Z_inters (s : Ps) (h : s.pl ≠ 0) (c : Nat) : Zs (takeIntersP s c).1 := by
  unfold takeIntersP
  split
  · exact Z_code s c
  · split
    · exact Zne (by show (takeInterP _ _).pl ≠ 0; rw [pl_inter]; show (5 : Int) ≠ 0; decide)
    · exact Zne h
theorem Z_numbers (s : Ps) (h : s.pl ≠ 0) (c : Nat) : Zs (takeNumbersP s c).1 := by
  unfold takeNumbersP
  split
  · exact Zne h
  · exact Z_inters s h c
theorem Z_first (s : Ps) (c : Nat) : Zs (takeFirstP s c).1 := by
  unfold takeFirstP
  split
  · exact Zne (by show (4 : Int) ≠ 0; decide)
  · exact Z_numbers _ (by show (4 : Int) ≠ 0; decide) c
theorem Z_escI (s : Ps) (c : Nat) : Zs (takeEscIntersP s c).1 := by
  unfold takeEscIntersP
  split
  · exact Zne (by show (takeInterP _ _).pl ≠ 0; rw [pl_inter]; show (2 : Int) ≠ 0; decide)
  · exact Z_code s c
theorem Z_esc (s : Ps) (c : Nat) : Zs (takeEscapedP s c).1 := by
  unfold takeEscapedP
  split; exact Zne (by show (3 : Int) ≠ 0; decide)
  split; exact Zne (by show (3 : Int) ≠ 0; decide)
  split; exact Zne (by show (6 : Int) ≠ 0; decide)
  split; exact Zne (by show (6 : Int) ≠ 0; decide)
  split; exact Zne (by show (6 : Int) ≠ 0; decide)
  split; exact Zne (by show (6 : Int) ≠ 0; decide)
  split; exact Z0
  exact Z_escI s c
theorem Z_step (s : Ps) (h : s.pl ≠ 0) (c : Nat) : Zs (stepP s c).1 := by
  unfold stepP
  split; exact Z_esc _ _
  split; exact Z_escI _ _
  split; exact Z_first _ _
  split; exact Z_numbers _ h _
  exact Z_inters _ h _
theorem Z_beg : Zs begP := Zne (by show (1 : Int) ≠ 0; decide)
theorem Z_pl (s : Ps) (hz : Zs s) (c : Nat) : Zs (takePl s c).1 := by
  unfold takePl
  split
  · unfold takeOutsideP
    split; exact Z_beg
    split; exact hz
    split; exact hz
    exact hz
  · rename_i h0
    split
    · unfold takeTextP
      split; exact Zne (by show (7 : Int) ≠ 0; decide)
      split; exact Z0
      split; exact Zne (by show (holdP _ _).pl ≠ 0; rw [pl_hold]; exact h0)
      exact hz
    · unfold takeWithinP
      split; exact Z_beg
      split; exact hz
      split; exact hz
      exact Z_step s h0 _
theorem Z_take (s : Ps) (hz : Zs s) (c : Nat) : Zs (takeP s c).1 := by
  have h0 : ∀ s, Zs s → Zs (takeP0 s c).1 := fun s hz => by
    unfold takeP0
    split
    · exact Z_pl ps0 Z0 c
    · exact Z_pl s hz c
  unfold takeP
  split
  · unfold takeTextEscapeP
    split
    · exact Z0
    · exact h0 begP Z_beg
  · exact h0 s hz
theorem Z_run (l : List Nat) : ∀ s, Zs s → Zs (runQ s l).1 := by
  induction l with
  | nil => intro s hz; exact hz
  | cons c l ih => intro s hz; rw [run_cons]; exact ih _ (Z_take s hz c)
theorem Z_feed (ns : List Nat) : Zs (feedL ps0 ns).1 := by rw [feedL_run]; exact Z_run _ _ Z0
theorem psU : Try.prog.underlying 38 = some (.struct (Try.prog.fieldsOf 38)) := by kernel_rfl
theorem psS : (Try.prog.info? 38).map (·.size) = some 4136 := by kernel_rfl
theorem cells_one (s : Ps) : s.cells.toArray.all (·.oneCell') = true := by
  rw [Array.all_eq_true_iff_forall_mem]
  intro v hv
  simp only [List.mem_toArray] at hv
  unfold Ps.cells at hv
  rcases List.mem_append.1 hv with hv | hv
  · unfold Ps.beg Ps.acc at hv
    simp only [List.mem_cons, List.mem_append, List.mem_map, List.not_mem_nil, or_false] at hv
    rcases hv with rfl | rfl | rfl | rfl | rfl | rfl | rfl | hv
    · rfl
    · rfl
    · rfl
    · rfl
    · rfl
    · rfl
    · rfl
    · rcases hv with (⟨x, _, rfl⟩ | rfl) | (rfl | rfl) <;> rfl
  · unfold Ps.dat at hv
    rcases List.mem_append.1 hv with hv | hv
    · obtain ⟨x, _, rfl⟩ := List.mem_map.1 hv
      rfl
    · rw [List.eq_of_mem_replicate hv]; rfl
set_option maxRecDepth 100000 in
set_option maxHeartbeats 4000000 in
theorem cloneP_any (g : Nat) (s : Ps) (w : World) (h : PsB w g s) :
    Calls Try.prog 20 #[.pointer (some ⟨g, 0, none⟩)] w fun e w' => e = .returned (.pointer (some ⟨w.heap.size, 0, none⟩)) ∧ PsB w' w.heap.size s ∧ Below w.heap.size w w' := by
  have hsz : (Try.prog.info? 38).map (·.size) = some s.cells.toArray.size := by
    rw [show s.cells.toArray.size = 4136 by simpa using cells_len s h.ok.ds]; exact psS
  have HS := Lib.hid hsz
  have HZ : Hid (ps0.cells.toArray.size = s.cells.toArray.size) := Lib.hid (by
    rw [show s.cells.toArray.size = 4136 by simpa using cells_len s h.ok.ds]
    simpa using cells_len ps0 ps0_ok.ds)
  have HO := Lib.hid (cells_one s)
  have HB := Lib.hid h.blk
  have HK := Lib.hid h.ok
  clear h hsz
  have HE : Hid (∀ W, Blk W w.heap.size 38 s.cells.toArray → PsB W w.heap.size s) := Lib.hid (fun W h => ⟨h, HK.out⟩)
  generalize s.cells.toArray = X at *
  go_enter Try.func20, Try.ntmps20
  go_wp2_with (first
    | (refine wpList_load_row rfl _ _ rfl g rfl _ X (0, 0) _ HB.out psU rfl HS.out ?_)
    | (refine wpList_alloc_ps rfl rfl ?_)
    | (refine wpList_store_row rfl _ _ _ rfl w.heap.size X rfl rfl _ _ (Blk.new _ _ _) HS.out HZ.out HO.out ?_))
  go_ret
  exact ⟨rfl, HE.out _ (setRow_heap _ _ _ _ _ _ (Blk.new _ _ _)), below_gb ((Below.refl _ _).alloc (Nat.le_refl _) _) (grown_row _ _ _) (Nat.le_refl _) (by simp)⟩
theorem OTr.keep {w w' : World} {base : Nat} {v : Value} {ts : List Tok} {row : Option Nat} (h : OTr w base v ts) (hg : w.grownBy w' row) (hr : ∀ k, row = some k → k < base) : OTr w' base v ts := by
  obtain ⟨xs, h1, h2⟩ := h
  refine ⟨xs, World.ownsRow.kept (row := row) h1 hg ?_, h2.keep hg hr⟩
  rcases hk : v.ownBlock with _ | k
  · exact .inl rfl
  · right; intro e; have q1 := (World.ownsRow.lt h1 k hk).1; have q2 := hr k e.symm; omega
theorem refSplitO_any (A : Option Addr) (cap : Nat) (ns : List Nat) (hn : ∀ x ∈ ns, x < 256) (hl : ns.length ≤ 200000) (w : World) (hr : RByt w A ns) :
    Calls Try.prog 13 #[.slice A ns.length cap] w (fun e w' => (∃ A' c', e = .returned (.tuple #[.slice A' (feedL ps0 ns).2.length c', .bool !((feedL ps0 ns).1.pl == 0)]) ∧ OTr w' w.heap.size (.slice A' (feedL ps0 ns).2.length c') (feedL ps0 ns).2) ∧ Below w.heap.size w w') := by
  refine (refSplit_any A cap ns hn hl w hr).mono ?_
  rintro e w' ⟨⟨v, rfl, ho⟩, hb⟩
  have hf := feed_split ns hn
  rw [← hf.1] at ho
  obtain ⟨A', c', rfl, hr'⟩ := ho.reads
  exact ⟨⟨A', c', by rw [hf.2, Bool.not_not], ho⟩, hb⟩
/-- A parser's box, where another block is turned. -/
theorem PsB.other {w w' : World} {g k : Nat} {s : Ps} (h : PsB w g s) (hg : w.grownBy w' (some k)) (hne : g ≠ k) : PsB w' g s := ⟨(hg.block g h.lt (by simp; omega)).trans h.blk, h.ok⟩
/-- .. where a list is grown. -/
theorem PsB.list {w w' : World} {g b n sz : Nat} {T : TypeId} {s : Ps} {v : Value} {xs : List Value} (h : PsB w g s) (ho : w.ownsRow b T sz v n xs) (hT : T ≠ 38) (hg : w.grownBy w' v.ownBlock) : PsB w' g s :=
  ⟨(hg.block g h.lt (fun e => own_ty ho h.blk hT e.symm)).trans h.blk, h.ok⟩
theorem OTl.box {w w' : World} {base g : Nat} {cs : Array Value} (hb : Blk w g 38 cs) (hg : w.grownBy w' (some g)) : ∀ {xs : List (Array Value)} {ts : List Tok}, OTl w base xs ts → OTl w' base xs ts
  | [], [], _ => trivial
  | _ :: _, _ :: _, h => by
    obtain ⟨⟨A, c, B, d, e, h1, h2⟩, h3⟩ := h
    exact ⟨⟨A, c, B, d, e, World.ownsRow.kept (oints_own h1) hg (.inr (own_ty (oints_own h1) hb (by decide))), World.ownsRow.kept h2 hg (.inr (own_ty h2 hb (by decide)))⟩, OTl.box hb hg h3⟩
/-- A list of tokens, where a parser's box is turned. -/
theorem OTks.box {w w' : World} {base g : Nat} {cs : Array Value} {v : Value} {ts : List Tok} (h : OTks w base v ts) (hb : Blk w g 38 cs) (hg : w.grownBy w' (some g)) : OTks w' base v ts := by
  obtain ⟨xs, h1, h2⟩ := h
  exact ⟨xs, World.ownsRow.kept h1 hg (.inr (own_ty h1 hb (by decide))), h2.box hb hg⟩
theorem rbyt_row {w W : World} {A : Option Addr} {ns : List Nat} {row : Option Nat} (h : RByt w A ns) (hg : w.grownBy W row) (hA : ∀ ad, 0 < ns.length → A = some ad → row ≠ some ad.block) : RByt W A ns := by
  refine ⟨h.1, fun hn => ?_⟩
  obtain ⟨ad, rfl, hb, hc⟩ := h.2 hn
  refine ⟨ad, rfl, Nat.lt_of_lt_of_le hb hg.size, fun j u hu => ?_⟩
  have hk := hg.block ad.block hb (fun e => hA ad hn rfl e.symm)
  have := hc j u hu
  unfold World.cell? at this ⊢
  rw [add_blk] at this ⊢
  rw [hk]
  exact this
end Go.Proofs.Ytdmiihmaijbkfaa

/-
  A parser's small calls: its numbers, what forgets, what holds a byte.
-/
import Derived.Test.YtpiliicphoacfaaDoorPrsB
import Derived.Deep.MidRow
import Derived.Lib.SliceRun
namespace Go.Proofs.YtpiliicphoacfaaDoor

open Go Go.RowKit

set_option maxRecDepth 100000 in
set_option maxHeartbeats 1000000 in
theorem listP_any (g : Nat) (s : Ps) (w : World) (h : PsB w g s) :
    Calls Tryd.prog 97 #[.pointer (some ⟨g, 7, none⟩)] w fun e w' => ∃ v, e = .returned v ∧ OInts w' w.heap.size v (s.fs.take 30) ∧ Below w.heap.size w w' := by
  have hb := h.at_ 37 _ (cell_begun s)
  have hlt := h.lt
  have hrow : ∀ j, j < 30 → w.cell? ⟨g, 7 + j, none⟩ = (padF s.fs)[j]?.map (Value.int .i64) := fun j hj => by
    rw [h.blk.cell (7 + j), List.getElem?_toArray]; exact cell_fs s j hj
  generalize s.fs = fs at *
  have HR := Lib.hid hrow
  clear h hrow
  obtain ⟨i0, hi0, hz0, hz1, hz2⟩ := info_parts info_int
  have HI := Lib.hid hi0; have HZ0 := Lib.hid hz0; have HZ1 := Lib.hid hz1; have HZ2 := Lib.hid hz2
  clear hi0 hz0 hz1 hz2
  obtain ⟨ns, hns⟩ : ∃ ns, ns = fs.take 30 := ⟨_, rfl⟩
  rw [← hns]
  obtain ⟨n, hn, hn30⟩ : ∃ n : Nat, n = ns.length ∧ n ≤ 30 := ⟨_, rfl, by rw [hns]; simp; omega⟩
  have HN := Lib.hid hn
  have HTake : Hid (∀ j v, (ns.map (Value.int .i64))[j]? = some v → j < 30 ∧ (padF fs)[j]?.map (Value.int .i64) = some v) := Lib.hid (fun j v hj => by
    rw [hns] at hj
    have hj' : j < (fs.take 30).length := by
      rcases Nat.lt_or_ge j (fs.take 30).length with h' | h'
      · exact h'
      · rw [List.getElem?_eq_none (by simpa using h')] at hj; cases hj
    refine ⟨by simp at hj'; omega, ?_⟩
    rw [← hj, List.getElem?_map]
    unfold padF
    rw [List.getElem?_append_left hj'])
  clear hn
  have hm : (∃ m : Nat, min fs.length 31 = m ∧ m ≤ 30 ∧ m = n) ∨ (min fs.length 31 = 31 ∧ n = 30) := by
    have := HN.out
    rw [hns] at this
    simp at this
    by_cases hl : fs.length ≤ 30
    · exact .inl ⟨_, rfl, by omega, by omega⟩
    · exact .inr (by omega)
  clear hns
  rcases hm with ⟨m, hm, hm30, rfl⟩ | ⟨hm, rfl⟩
  all_goals
    rw [hm] at hb
    clear hm
    have mn31 : min (31 : Int) 30 = 30 := rfl
    try (have mnm : min (m : Int) 30 = (m : Int) := by omega)
    go_enter Tryd.func97, Tryd.ntmps97
    go_wp2_with (first
      | (at_make; (first | refine wpList_make_full _ rfl _ _ 27 rfl w.heap.size 3 i0 (.int .i64 0) 1 Tryd.underlying27 HI.out HZ0.out HZ1.out _ _ _ _ m rfl rfl rfl rfl (by rw [HZ2.out]; omega) (by unfold maxLen; omega) (Nat.le_refl _) ?_ | refine wpList_make_full _ rfl _ _ 27 rfl w.heap.size 3 i0 (.int .i64 0) 1 Tryd.underlying27 HI.out HZ0.out HZ1.out _ _ _ _ 30 rfl rfl rfl rfl (by rw [HZ2.out]; omega) (by unfold maxLen; omega) (Nat.le_refl _) ?_); intro w1 hown hgr; have HOwn := Lib.hid hown; have HB1 := Lib.hid (below_grown_none hgr (Nat.le_refl _)); clear hown hgr)
      | (refine wpList_copy_splice (o := ⟨some 15, _, _, _, _, _⟩) rfl (.tmp 10) (.tmp 14) 27 27 rfl 3 Tryd.underlying27 (by kernel_rfl) _ _ _ _ _ _ rfl rfl w.heap.size 0 _ 3 (own_blkP HOwn.out) (ns.map (Value.int .i64)) (by rw [List.length_map, ← HN.out]; exact (Nat.min_eq_right (by omega)).symm) (fun _ => ⟨rfl, ⟨g, 7, none⟩, rfl, fun j v hv => by rw [Addr.add_mid, HB1.out.cell (p := ⟨g, 7 + j, none⟩) hlt, HR.out j (HTake.out j v hv).1]; exact (HTake.out j v hv).2⟩) (by rw [List.length_map, ← HN.out]; simp [madeCells]) (ints_one _) w.heap.size w HB1.out (Nat.le_refl _) ?_; intro w2 hblk2 hb2))
    go_ret
    have h2 := hblk2.out
    rw [splice_all _ _ (by rw [List.length_map, ← HN.out]; simp [madeCells])] at h2
    have h3 := blk_own h2 (Nat.le_refl _) (by rw [← HN.out]; unfold maxLen; omega)
    rw [← HN.out] at h3
    exact ⟨_, rfl, h3, hb2⟩
/-! Several cells in the midst of a box. -/
def setL (l : List Value) : Nat → List Value → List Value
  | _, [] => l
  | o, v :: r => setL (l.set o v) (o + 1) r
theorem setL_mid (ys' : List Value) : ∀ (xs ys zs : List Value), ys'.length = ys.length → setL (xs ++ (ys ++ zs)) xs.length ys' = xs ++ (ys' ++ zs) := by
  induction ys' with
  | nil => intro xs ys zs h; obtain rfl : ys = [] := List.eq_nil_of_length_eq_zero h.symm; rfl
  | cons v r ih =>
    intro xs ys zs h
    cases ys with
    | nil => simp at h
    | cons y t =>
      have e : (xs ++ (y :: t ++ zs)).set xs.length v = (xs ++ [v]) ++ (t ++ zs) := by
        rw [List.set_append_right _ _ (Nat.le_refl _)]; simp
      rw [setL, e, show xs.length + 1 = (xs ++ [v]).length from by simp, ih (xs ++ [v]) t zs (by simpa using h)]
      simp
theorem blk_setCells {g : Nat} {T : TypeId} (vs : List Value) : ∀ (o : Nat) (w : World) (l : List Value), Blk w g T l.toArray → Blk (w.setCells g o vs) g T (setL l o vs).toArray := by
  induction vs with
  | nil => intro o w l h; exact h
  | cons v r ih =>
    intro o w l h
    have := Blk.set_ h o v
    rw [List.setIfInBounds_toArray] at this
    exact ih (o + 1) _ _ this
theorem grown_setCells {g : Nat} (vs : List Value) : ∀ (o : Nat) (w : World), w.grownBy (w.setCells g o vs) (some g) := by
  induction vs with
  | nil => intro o w; exact ⟨rfl, rfl, rfl, Nat.le_refl _, fun k _ _ => rfl⟩
  | cons v r ih => intro o w; exact grown_trans grown_set (ih (o + 1) _)
theorem there_blk {w : World} {g : Nat} {T : TypeId} {cs : Array Value} (h : Blk w g T cs) (o n : Nat) (hn : o + n ≤ cs.size) : w.there g o n := fun j hj => ⟨by rw [h.cell]; simp; omega, h.frozen _⟩
theorem grown_refl (w : World) (r : Option Nat) : w.grownBy w r := ⟨rfl, rfl, rfl, Nat.le_refl _, fun _ _ _ => rfl⟩
theorem grown_below {w w' : World} {r : Option Nat} (h : Below w.heap.size w w') : w.grownBy w' r := ⟨h.os, h.tape, h.output, h.size, fun k hk _ => h.block k hk⟩
theorem PsB.grown {w w' : World} {g k : Nat} {s : Ps} (h : PsB w g s) (hg : w.grownBy w' (some k)) (hk : g ≠ k) : PsB w' g s := ⟨(hg.block g h.lt (fun e => hk (by simpa using e))).trans h.blk, h.ok⟩
end Go.Proofs.YtpiliicphoacfaaDoor

/-
  The walk that copies the collected numbers out.
-/
import Derived.Test.YtpiliicphoacfaaDoorParC
import Derived.Test.YtpiliicphoacfaaDoorKit2
import Derived.Laws.CopyOwn
namespace Go.Proofs.YtpiliicphoacfaaDoor

open Go.RowKit

theorem own_blkP {w : World} {base g n : Nat} {e : TypeId} {xs : List Value} (h : w.ownsRow base e 1 (.slice (some ⟨g, 0, none⟩) n n) n xs) : Blk w g e xs.toArray := by
  rcases h.2 with ⟨hv, _⟩ | ⟨g', cap, cur, hv, _, hg, _, _, hs, ht⟩
  · cases hv
  · simp only [Value.slice.injEq, Option.some.injEq, Addr.mk.injEq, and_true, true_and] at hv
    obtain ⟨rfl, rfl⟩ := hv
    have : cur.toList = xs := by rw [← ht]; exact (List.take_of_length_le (by simp; omega)).symm
    unfold Blk
    rw [hg, ← this]
theorem blk_own {w : World} {base g : Nat} {ns : List Int} (h : Blk w g 3 (ns.map (Value.int .i64)).toArray) (hb : base ≤ g) (hn : ns.length ≤ maxLen) : OInts w base (.slice (some ⟨g, 0, none⟩) ns.length ns.length) ns :=
  ⟨by simp, .inr ⟨g, ns.length, _, rfl, hb, h, Nat.le_refl _, hn, by simp, by simp [List.take_of_length_le]⟩⟩
theorem own_base {w : World} {b b' size n : Nat} {e : TypeId} {v : Value} {xs : List Value} (h : w.ownsRow b e size v n xs) (hb : b' ≤ b) : w.ownsRow b' e size v n xs := by
  refine ⟨h.1, ?_⟩
  rcases h.2 with h | ⟨g, cap, cur, hv, hg, r⟩
  · exact .inl h
  · exact .inr ⟨g, cap, cur, hv, Nat.le_trans hb hg, r⟩
theorem below_grown_none {B : Nat} {w w' : World} (h : w.grownBy w' none) (hB : B ≤ w.heap.size) : Below B w w' := (Below.refl _ _).grown h hB (fun k hk => by cases hk)

theorem add_here (g j : Nat) : (⟨g, 0, none⟩ : Addr).add j = ⟨g, j, none⟩ := by unfold Addr.add; split <;> simp_all
theorem splice_all {α : Type} (L cs : List α) (h : cs.length = L.length) : splice L 0 cs = cs := by simp [splice, h]
theorem ints_one (ns : List Int) : ∀ v ∈ ns.map (Value.int .i64), v.oneCell' = true := by
  intro v hv
  obtain ⟨n, _, rfl⟩ := List.mem_map.1 hv
  rfl
set_option maxRecDepth 100000 in
set_option maxHeartbeats 1000000 in
theorem list_any (g : Nat) (fs : List Int) (w : World) (h : Acc w g fs) :
    Calls Tryd.prog 97 #[.pointer (some ⟨g, 0, none⟩)] w fun e w' => ∃ v, e = .returned v ∧ OInts w' w.heap.size v (fs.take 30) ∧ Below w.heap.size w w' := by
  have hb := h.begun
  have hlt := Blk.lt h
  have hrow : ∀ j, j < 30 → w.cell? ⟨g, j, none⟩ = (padF fs)[j]?.map (Value.int .i64) := fun j hj => (Blk.cell h j).trans (acc_at fs j hj)
  have HR := Lib.hid hrow
  clear h hrow
  obtain ⟨i0, hi0, hz0, hz1, hz2⟩ := info_parts info_int
  have HI := Lib.hid hi0; have HZ0 := Lib.hid hz0; have HZ1 := Lib.hid hz1; have HZ2 := Lib.hid hz2
  clear hi0 hz0 hz1 hz2
  obtain ⟨ns, hns⟩ : ∃ ns, ns = fs.take 30 := ⟨_, rfl⟩
  rw [← hns]
  obtain ⟨n, hn, hn30⟩ : ∃ n : Nat, n = ns.length ∧ n ≤ 30 := ⟨_, rfl, by rw [hns]; simp; omega⟩
  have HN := Lib.hid hn
  have HTake : Hid (∀ j v, (ns.map (Value.int .i64))[j]? = some v → j < 30 ∧ (padF fs)[j]?.map (Value.int .i64) = some v) := Lib.hid (fun j v hj => by
    rw [hns] at hj
    have hj' : j < (fs.take 30).length := by
      rcases Nat.lt_or_ge j (fs.take 30).length with h' | h'
      · exact h'
      · rw [List.getElem?_eq_none (by simpa using h')] at hj; cases hj
    refine ⟨by simp at hj'; omega, ?_⟩
    rw [← hj, List.getElem?_map]
    unfold padF
    rw [List.getElem?_append_left hj'])
  clear hn
  have hm : (∃ m : Nat, min fs.length 31 = m ∧ m ≤ 30 ∧ m = n) ∨ (min fs.length 31 = 31 ∧ n = 30) := by
    have := HN.out
    rw [hns] at this
    simp at this
    by_cases hl : fs.length ≤ 30
    · exact .inl ⟨_, rfl, by omega, by omega⟩
    · exact .inr (by omega)
  clear hns
  rcases hm with ⟨m, hm, hm30, rfl⟩ | ⟨hm, rfl⟩
  all_goals
    rw [hm] at hb
    clear hm
    go_enter Tryd.func97, Tryd.ntmps97
    go_wp2_with (first
      | (at_make; (first | refine wpList_make_full _ rfl _ _ 27 rfl w.heap.size 3 i0 (.int .i64 0) 1 Tryd.underlying27 HI.out HZ0.out HZ1.out _ _ _ _ m rfl rfl rfl rfl (by rw [HZ2.out]; omega) (by unfold maxLen; omega) (Nat.le_refl _) ?_ | refine wpList_make_full _ rfl _ _ 27 rfl w.heap.size 3 i0 (.int .i64 0) 1 Tryd.underlying27 HI.out HZ0.out HZ1.out _ _ _ _ 30 rfl rfl rfl rfl (by rw [HZ2.out]; omega) (by unfold maxLen; omega) (Nat.le_refl _) ?_); intro w1 hown hgr; have HOwn := Lib.hid hown; have HB1 := Lib.hid (below_grown_none hgr (Nat.le_refl _)); clear hown hgr)
      | (refine wpList_copy_splice (o := ⟨some 15, _, _, _, _, _⟩) rfl (.tmp 10) (.tmp 14) 27 27 rfl 3 Tryd.underlying27 (by kernel_rfl) _ _ _ _ _ _ rfl rfl w.heap.size 0 _ 3 (own_blkP HOwn.out) (ns.map (Value.int .i64)) (by rw [List.length_map, ← HN.out]; exact (Nat.min_eq_right (by omega)).symm) (fun _ => ⟨rfl, ⟨g, 0, none⟩, rfl, fun j v hv => by rw [add_here, HB1.out.cell (p := ⟨g, j, none⟩) hlt, HR.out j (HTake.out j v hv).1]; exact (HTake.out j v hv).2⟩) (by rw [List.length_map, ← HN.out]; simp [madeCells]) (ints_one _) w.heap.size w HB1.out (Nat.le_refl _) ?_; intro w2 hblk2 hb2))
    go_ret
    have h2 := hblk2.out
    rw [splice_all _ _ (by rw [List.length_map, ← HN.out]; simp [madeCells])] at h2
    have h3 := blk_own h2 (Nat.le_refl _) (by rw [← HN.out]; unfold maxLen; omega)
    rw [← HN.out] at h3
    exact ⟨_, rfl, h3, hb2⟩
end Go.Proofs.YtpiliicphoacfaaDoor

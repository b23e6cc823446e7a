/-
  The walk that copies the collected numbers out.
-/
import Derived.Test.YtegcebdnofnigaaDoorParC
import Derived.Test.YtegcebdnofnigaaDoorKit2
import Derived.Laws.CopyOwn
namespace Go.Proofs.YtegcebdnofnigaaDoor

open Go.RowKit

theorem own_blkP {w : World} {base g n : Nat} {e : TypeId} {xs : List Value} (h : w.ownsRow base e 1 (.slice (some ⟨g, 0, none⟩) n n) n xs) : Blk w g e xs.toArray := by
  rcases h.2 with ⟨hv, _⟩ | ⟨g', cap, cur, hv, _, hg, _, _, hs, ht⟩
  · cases hv
  · simp only [Value.slice.injEq, Option.some.injEq, Addr.mk.injEq, and_true, true_and] at hv
    obtain ⟨rfl, rfl⟩ := hv
    have : cur.toList = xs := by rw [← ht]; exact (List.take_of_length_le (by simp; omega)).symm
    unfold Blk
    rw [hg, ← this]
theorem blk_own {w : World} {base g : Nat} {ns : List Int} (h : Blk w g 3 (ns.map (Value.int .i64)).toArray) (hb : base ≤ g) (hn : ns.length ≤ maxLen) : OInts w base (.slice (some ⟨g, 0, none⟩) ns.length ns.length) ns :=
  ⟨by simp, .inr ⟨g, ns.length, _, rfl, hb, h, Nat.le_refl _, hn, by simp, by simp [List.take_of_length_le]⟩⟩
theorem own_base {w : World} {b b' size n : Nat} {e : TypeId} {v : Value} {xs : List Value} (h : w.ownsRow b e size v n xs) (hb : b' ≤ b) : w.ownsRow b' e size v n xs := by
  refine ⟨h.1, ?_⟩
  rcases h.2 with h | ⟨g, cap, cur, hv, hg, r⟩
  · exact .inl h
  · exact .inr ⟨g, cap, cur, hv, Nat.le_trans hb hg, r⟩
theorem below_grown_none {B : Nat} {w w' : World} (h : w.grownBy w' none) (hB : B ≤ w.heap.size) : Below B w w' := (Below.refl _ _).grown h hB (fun k hk => by cases hk)

theorem add_here (g j : Nat) : (⟨g, 0, none⟩ : Addr).add j = ⟨g, j, none⟩ := by unfold Addr.add; split <;> simp_all
theorem splice_all {α : Type} (L cs : List α) (h : cs.length = L.length) : splice L 0 cs = cs := by simp [splice, h]
theorem ints_one (ns : List Int) : ∀ v ∈ ns.map (Value.int .i64), v.oneCell' = true := by
  intro v hv
  obtain ⟨n, _, rfl⟩ := List.mem_map.1 hv
  rfl

end Go.Proofs.YtegcebdnofnigaaDoor

/-
  The walks of the reference: a number of digits, a text of numbers piece by piece.
-/
import Derived.Test.YtegcebdnofnigaaDoorParE
namespace Go.Proofs.YtegcebdnofnigaaDoor

open Go.RowKit

/-- The number of the digits so far, where it stops growing. -/
theorem sat_snoc (l : List UInt8) (k : Nat) (h : k < l.length) : sat (l.take (k + 1)) = sat1 (sat (l.take k)) (dgt l[k]) := by
  unfold sat; rw [take_snoc l k h, List.foldl_append]; rfl
theorem sat_stop (l : List UInt8) (h : ∀ b ∈ l, 48 ≤ b.toNat ∧ b.toNat ≤ 57) (k : Nat) (hk : sat (l.take k) = 65535) : sat l = 65535 := by
  have key : ∀ m : List UInt8, (∀ b ∈ m, 48 ≤ b.toNat ∧ b.toNat ≤ 57) → m.foldl (fun n b => sat1 n (dgt b)) 65535 = 65535 := by
    intro m
    induction m with
    | nil => intro _; rfl
    | cons b m ih =>
      intro hm
      have hb := hm b (by simp)
      have : sat1 65535 (dgt b) = 65535 := by unfold sat1 dgt; omega
      rw [List.foldl_cons, this]
      exact ih (fun c hc => hm c (by simp [hc]))
  have e : l = l.take k ++ l.drop k := (List.take_append_drop k l).symm
  rw [e]; unfold sat; rw [List.foldl_append]
  have hk' : (l.take k).foldl (fun n b => sat1 n (dgt b)) 0 = 65535 := hk
  rw [hk']
  exact key _ (fun b hb => h b (List.mem_of_mem_drop hb))
theorem sat_range (l : List UInt8) (h : ∀ b ∈ l, 48 ≤ b.toNat ∧ b.toNat ≤ 57) : 0 ≤ sat l ∧ sat l ≤ 65535 := by
  have key : ∀ (m : List UInt8) (x : Int), 0 ≤ x → x ≤ 65535 → (∀ b ∈ m, 48 ≤ b.toNat ∧ b.toNat ≤ 57) → 0 ≤ m.foldl (fun n b => sat1 n (dgt b)) x ∧ m.foldl (fun n b => sat1 n (dgt b)) x ≤ 65535 := by
    intro m
    induction m with
    | nil => intro x h0 h1 _; exact ⟨h0, h1⟩
    | cons b m ih =>
      intro x h0 h1 hm
      have hb := hm b (by simp)
      have := sat1_range (n := x) (d := dgt b) h0 (by unfold dgt; omega)
      exact ih _ this.1 this.2 (fun c hc => hm c (by simp [hc]))
  exact key l 0 (by omega) (by omega) h


end Go.Proofs.YtegcebdnofnigaaDoor

/-
  Plain facts: turning cells twice, keeping and letting go, and what it does to a checksum.
-/
import Derived.Test.YtdjbfnhgendacaaDoorFrameD
namespace Go.Proofs.YtdjbfnhgendacaaDoor
open Go.RowKit

/-- A cell turned: its rendition without the bits that are none, kept where it wasn't. -/
def turnC (c : Cl) : Cl := ⟨c.g, c.r % 32, !c.k⟩
/-- How many are kept. -/
def keptN (l : List Cl) : Int := l.foldl (fun n c => n + if c.k then 1 else 0) 0
def keptF (l : List Cl) (n : Int) : Int := l.foldl (fun n c => n + if c.k then 1 else 0) n
theorem keptF_add (l : List Cl) : ∀ n : Int, keptF l n = n + keptN l := by
  induction l with
  | nil => intro n; simp [keptF, keptN]
  | cons c l ih =>
    intro n
    have h1 := ih (n + if c.k then 1 else 0)
    have h2 := ih (0 + if c.k then 1 else 0)
    show keptF l (n + if c.k then 1 else 0) = n + keptF l (0 + if c.k then 1 else 0)
    rw [h1, h2]; omega
theorem keptN_cons (c : Cl) (l : List Cl) : keptN (c :: l) = (if c.k then 1 else 0) + keptN l := by
  show keptF l (0 + if c.k then 1 else 0) = _
  rw [keptF_add]; omega
theorem keptN_range (l : List Cl) : 0 ≤ keptN l ∧ keptN l ≤ l.length := by
  induction l with
  | nil => simp [keptN]
  | cons c l ih => rw [keptN_cons, List.length_cons]; split <;> omega
theorem keptN_snoc (l : List Cl) (k : Nat) (hk : k < l.length) : keptN (l.take (k + 1)) = keptN (l.take k) + if l[k].k then 1 else 0 := foldl_snoc (fun n (c : Cl) => n + if c.k then 1 else 0) (0 : Int) l k hk
theorem wt_mod {x : Int} (h0 : 0 ≤ x) (h1 : x ≤ 255) : wt (x % 32) = wt x := by
  rw [wt_inj]
  exact ⟨fb_mod h0 h1 0 (by omega), fb_mod h0 h1 1 (by omega), fb_mod h0 h1 2 (by omega), fb_mod h0 h1 3 (by omega), fb_mod h0 h1 4 (by omega)⟩
theorem w_turn {c : Cl} (h : c.ok) : (turnC c).w = c.w + 4 - 8 * (if c.k then 1 else 0) := by
  obtain ⟨g, r, k⟩ := c
  have := wt_mod h.2.1 h.2.2
  simp only [turnC, Cl.w] at *
  rw [this]
  cases k <;> simp <;> omega
theorem sum_turn (l : List Cl) : OkCells l → ∀ s t : Int, ∃ m : Int, sumC t (l.map turnC) - sumC s l = (t - s) + 4 * (l.length - 2 * keptN l) + 65536 * m := by
  induction l with
  | nil => intro _ s t; exact ⟨0, by simp [sumC, keptN]⟩
  | cons c l ih =>
    intro hok s t
    obtain ⟨m, hm⟩ := ih (fun x hx => hok x (List.mem_cons_of_mem _ hx)) ((s + c.w) % 65536) ((t + (turnC c).w) % 65536)
    have hw := w_turn (hok c List.mem_cons_self)
    refine ⟨m + (s + c.w) / 65536 - (t + (turnC c).w) / 65536, ?_⟩
    show sumC ((t + (turnC c).w) % 65536) (l.map turnC) - sumC ((s + c.w) % 65536) l = _
    rw [hm, keptN_cons, List.length_cons, hw]
    have e1 := Int.mul_ediv_add_emod (s + c.w) 65536
    have e2 := Int.mul_ediv_add_emod (t + (c.w + 4 - 8 * (if c.k then 1 else 0))) 65536
    push_cast
    generalize (if c.k = true then (1 : Int) else 0) = q at *
    generalize (s + c.w) / 65536 = d1 at *
    generalize (t + (c.w + 4 - 8 * q)) / 65536 = d2 at *
    generalize (s + c.w) % 65536 = r1 at *
    generalize (t + (c.w + 4 - 8 * q)) % 65536 = r2 at *
    omega
theorem turn_fact {l : List Cl} (hok : OkCells l) : (sumC 0 (l.map turnC) - sumC 0 l - 4 * (l.length - 2 * keptN l)).tmod 65536 = 0 := by
  obtain ⟨m, hm⟩ := sum_turn l hok 0 0
  have : sumC 0 (l.map turnC) - sumC 0 l - 4 * (l.length - 2 * keptN l) = 65536 * m := by omega
  rw [this]
  exact Int.mul_tmod_right 65536 m
/-- The row in the midst of being turned. -/
def mid (l : List Cl) (k : Nat) : List Cl := (l.take k).map turnC ++ l.drop k
theorem mid_len (l : List Cl) (k : Nat) (hk : k ≤ l.length) : (mid l k).length = l.length := by simp [mid]; omega
theorem mid_at (l : List Cl) (k : Nat) (hk : k < l.length) : ∃ h : k < (mid l k).length, (mid l k)[k] = l[k] := by
  have hl := mid_len l k (by omega)
  refine ⟨by omega, ?_⟩
  unfold mid
  rw [List.getElem_append_right (by simp; omega)]
  simp [List.length_take, Nat.min_eq_left (Nat.le_of_lt hk)]
theorem mid_set (l : List Cl) (k : Nat) (hk : k < l.length) : (mid l k).set k (turnC l[k]) = mid l (k + 1) := by
  unfold mid
  have h1 : ((l.take k).map turnC).length = k := by simp; omega
  rw [List.set_append_right _ _ (by omega), h1, Nat.sub_self, take_snoc l k hk, List.map_append, List.append_assoc, List.drop_eq_getElem_cons hk]
  rfl
end Go.Proofs.YtdjbfnhgendacaaDoor

/-
  The walk of the reference that reads bytes as a row.
-/
import Derived.Test.YtgndjonalhdhkaaDoorPackI
import Derived.Test.YtgndjonalhdhkaaDoorPackH
import Derived.Test.YtgndjonalhdhkaaDoorMixE
import Derived.StillTailTactics
namespace Go.Proofs.YtgndjonalhdhkaaDoor
open Go Go.RowKit

theorem rbs_cell {w : World} {ad : Addr} {bs : List Int} (h : RBs w (some ad) bs) {k : Nat} {b : Int} (hb : bs[k]? = some b) : ∀ w', Below w.heap.size w w' → w'.cell? (ad.add k) = some (.int .u8 b) := fun w' hw => by
  obtain ⟨hlt, hz⟩ := List.getElem?_eq_some_iff.1 hb
  obtain ⟨ad', e', _, h1⟩ := (h.next hw).at_ hlt
  obtain rfl : ad = ad' := by injection e'
  rw [hz] at h1
  exact h1
theorem drop_at {bs : List Int} {i : Nat} {l : List Int} (h : bs.drop i = l) (j : Nat) : bs[i + j]? = l[j]? := by
  rw [← h, List.getElem?_drop]
theorem rr_parts (bs : List Int) (i : Nat) (x : Rn) (h : rr (bs.drop i) = some x) : ∃ b0 b1 b2 b3 b4 b5 b6, bs[i]? = some b0 ∧ bs[i + 1]? = some b1 ∧ bs[i + 2]? = some b2 ∧ bs[i + 3]? = some b3 ∧ bs[i + 4]? = some b4 ∧ bs[i + 5]? = some b5 ∧ bs[i + 6]? = some b6 ∧ b0 ≠ 0 ∧ b6 ≤ 1 ∧ x = (cell6 b1 b2 b3 b4 b5 b6, b0.toNat) := by
  rcases seven (bs.drop i) with hs | ⟨b0, b1, b2, b3, b4, b5, b6, tl, e⟩
  · rw [rr_short _ hs] at h; cases h
  · have h' := h
    rw [e] at h'
    simp only [rr] at h'
    split at h'
    · cases h'
    · refine ⟨b0, b1, b2, b3, b4, b5, b6, drop_at e 0, drop_at e 1, drop_at e 2, drop_at e 3, drop_at e 4, drop_at e 5, drop_at e 6, by omega, by omega, (Option.some.inj h').symm⟩
theorem rr_bad (bs : List Int) (i : Nat) (h : rr (bs.drop i) = none) : bs.length < i + 7 ∨ ∃ b0 b6, i + 7 ≤ bs.length ∧ bs[i]? = some b0 ∧ bs[i + 6]? = some b6 ∧ (b0 = 0 ∨ b0 ≠ 0 ∧ 1 < b6) := by
  rcases seven (bs.drop i) with hs | ⟨b0, b1, b2, b3, b4, b5, b6, tl, e⟩
  · rw [List.length_drop] at hs
    omega
  · have hl := congrArg List.length e
    rw [List.length_drop] at hl
    simp only [List.length_cons] at hl
    rw [e] at h
    simp only [rr] at h
    split at h
    · exact .inr ⟨b0, b6, by omega, drop_at e 0, drop_at e 6, by omega⟩
    · cases h
theorem same_iff (bs : List Int) (i : Nat) (a x : Rn) (hok : OkBs bs) (ha : rr (bs.drop i) = some a) (hx : rr (bs.drop (i + 7)) = some x) :
    (∀ t, 1 ≤ t → t < 7 → bs[i + 7 + t]? = bs[i + t]?) ↔ a.1 = x.1 := by
  obtain ⟨a0, a1, a2, a3, a4, a5, a6, p0, p1, p2, p3, p4, p5, p6, _, s6, rfl⟩ := rr_parts bs i a ha
  obtain ⟨b0, b1, b2, b3, b4, b5, b6, q0, q1, q2, q3, q4, q5, q6, _, t6, rfl⟩ := rr_parts bs (i + 7) x hx
  have hin : ∀ {k : Nat} {b : Int}, bs[k]? = some b → 0 ≤ b ∧ b ≤ 255 := fun h => hok _ (List.mem_of_getElem? h)
  have hA : OkBs [a1, a2, a3, a4, a5, a6] := by
    intro y hy; simp at hy
    rcases hy with rfl | rfl | rfl | rfl | rfl | rfl <;> (apply hin; assumption)
  have hB : OkBs [b1, b2, b3, b4, b5, b6] := by
    intro y hy; simp at hy
    rcases hy with rfl | rfl | rfl | rfl | rfl | rfl <;> (apply hin; assumption)
  constructor
  · intro h
    have e1 := h 1 (by omega) (by omega); have e2 := h 2 (by omega) (by omega); have e3 := h 3 (by omega) (by omega)
    have e4 := h 4 (by omega) (by omega); have e5 := h 5 (by omega) (by omega); have e6 := h 6 (by omega) (by omega)
    rw [p1, q1] at e1; rw [p2, q2] at e2; rw [p3, q3] at e3; rw [p4, q4] at e4; rw [p5, q5] at e5; rw [p6, q6] at e6
    cases e1; cases e2; cases e3; cases e4; cases e5; cases e6
    rfl
  · intro h t t1 t2
    have e : run7 (cell6 a1 a2 a3 a4 a5 a6) ((0 : Nat) : Int) = run7 (cell6 b1 b2 b3 b4 b5 b6) ((0 : Nat) : Int) := congrArg (fun c => run7 c ((0 : Nat) : Int)) h
    rw [bytes_back _ _ _ _ _ _ _ hA s6, bytes_back _ _ _ _ _ _ _ hB t6] at e
    simp only [List.cons.injEq] at e
    obtain ⟨_, rfl, rfl, rfl, rfl, rfl, rfl, _⟩ := e
    obtain rfl | rfl | rfl | rfl | rfl | rfl : t = 1 ∨ t = 2 ∨ t = 3 ∨ t = 4 ∨ t = 5 ∨ t = 6 := by omega
    · rw [p1, q1]
    · rw [p2, q2]
    · rw [p3, q3]
    · rw [p4, q4]
    · rw [p5, q5]
    · rw [p6, q6]
theorem takes_ahead (bs : List Int) (i : Nat) (a x : Rn) (hok : OkBs bs) (ha : rr (bs.drop i) = some a) (hx : rr (bs.drop (i + 7)) = some x) (b : Bool) (hlt : (a.2 : Int) < 255)
    (hb : b = true ↔ ∀ t, 1 ≤ t → t < 7 → bs[i + 7 + t]? = bs[i + 7 + t - 7]?) : takesC a.2 a.1 x.1 = b := by
  have h1 := same_iff bs i a x hok ha hx
  have h2 := rr_ok _ a (fun y hy => hok y (List.mem_of_mem_drop hy)) ha
  have h3 : (∀ t, 1 ≤ t → t < 7 → bs[i + 7 + t]? = bs[i + 7 + t - 7]?) ↔ ∀ t, 1 ≤ t → t < 7 → bs[i + 7 + t]? = bs[i + t]? := by
    constructor
    · intro h t t1 t2; rw [h t t1 t2, show i + 7 + t - 7 = i + t from by omega]
    · intro h t t1 t2; rw [h t t1 t2, show i + 7 + t - 7 = i + t from by omega]
  rw [h3, h1] at hb
  rw [Bool.eq_iff_iff, takesC_iff, hb]
  constructor
  · rintro ⟨_, _, h⟩; exact h
  · intro h; exact ⟨by omega, hlt, h⟩
theorem glyph_of (U : Int) (b1 b2 b3 b4 : Int) (h : U = b1 * 16777216 + b2 * 65536 + b3 * 256 + b4) : glyph4 b1 b2 b3 b4 = if U < 2147483648 then U else U - 4294967296 := by
  unfold glyph4; rw [← h]
end Go.Proofs.YtgndjonalhdhkaaDoor

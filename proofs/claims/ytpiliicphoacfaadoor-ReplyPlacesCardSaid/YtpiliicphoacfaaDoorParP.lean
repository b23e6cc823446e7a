/-
  Numbers that are written are read back: plain.
-/
import Derived.Test.YtpiliicphoacfaaDoorParK
import Derived.Test.YtpiliicphoacfaaDoorParG
namespace Go.Proofs.YtpiliicphoacfaaDoor

open Go.RowKit

theorem dgt_ofNat (d : Nat) (h : d ≤ 9) : dgt (UInt8.ofNat (48 + d)) = d := by
  unfold dgt
  have : (UInt8.ofNat (48 + d)).toNat = 48 + d := by simp; omega
  rw [this]; omega
theorem dig_byte (d : Nat) (h : d ≤ 9) : 48 ≤ (UInt8.ofNat (48 + d)).toNat ∧ (UInt8.ofNat (48 + d)).toNat ≤ 57 := by
  have : (UInt8.ofNat (48 + d)).toNat = 48 + d := by simp; omega
  omega
theorem sat_append (p : List UInt8) (b : UInt8) : sat (p ++ [b]) = sat1 (sat p) (dgt b) := by unfold sat; rw [List.foldl_append]; rfl
theorem dec_ne (n : Nat) : Lib.decDigits n ≠ [] := by rw [Lib.decDigits]; split <;> simp
theorem dec_facts (K : Nat) : ∀ n : Nat, n < 10 ^ (K + 1) → n ≤ 65535 → sat (Lib.decDigits n) = n ∧ ∀ b ∈ Lib.decDigits n, 48 ≤ b.toNat ∧ b.toNat ≤ 57 := by
  induction K with
  | zero =>
    intro n hn _
    have hn : n < 10 := by simpa using hn
    rw [Lib.decDigits, dif_pos hn]
    refine ⟨?_, fun b hb => ?_⟩
    · show sat1 0 (dgt (UInt8.ofNat (48 + n))) = n
      rw [dgt_ofNat n (by omega)]; unfold sat1; omega
    · simp only [List.mem_singleton] at hb; subst hb; exact dig_byte n (by omega)
  | succ K ih =>
    intro n hn h6
    rw [Lib.decDigits]
    split
    · rename_i h
      refine ⟨?_, fun b hb => ?_⟩
      · show sat1 0 (dgt (UInt8.ofNat (48 + n))) = n
        rw [dgt_ofNat n (by omega)]; unfold sat1; omega
      · simp only [List.mem_singleton] at hb; subst hb; exact dig_byte n (by omega)
    · rename_i h
      obtain ⟨h1, h2⟩ := ih (n / 10) (by rw [Nat.pow_succ] at hn; omega) (by omega)
      refine ⟨?_, fun b hb => ?_⟩
      · rw [sat_append, h1, dgt_ofNat _ (by omega)]; unfold sat1; omega
      · rcases List.mem_append.1 hb with hb | hb
        · exact h2 b hb
        · simp only [List.mem_singleton] at hb; subst hb; exact dig_byte _ (by omega)
def clip65 (n : Int) : Int := clipP n 0 65535
theorem digs_facts (n : Int) : sat (digs n) = clip65 n ∧ (∀ b ∈ digs n, 48 ≤ b.toNat ∧ b.toNat ≤ 57) ∧ digs n ≠ [] := by
  have hc := clip_range n
  obtain ⟨h1, h2⟩ := dec_facts 4 (clipP n 0 65535).toNat (by omega) (by omega)
  exact ⟨by unfold digs clip65; rw [h1]; omega, h2, dec_ne _⟩
theorem not59 {b : UInt8} (h : 48 ≤ b.toNat ∧ b.toNat ≤ 57) : b ≠ 59 := by rintro rfl; simp at h
theorem okb_of {b : UInt8} (h : 48 ≤ b.toNat ∧ b.toNat ≤ 57) : okb b = true := by
  unfold okb
  simp [UInt8.le_iff_toNat_le]
  right; exact h
theorem join_snoc (ms : List Int) (k : Nat) (hk : k < ms.length) (h0 : 0 < k) : Lib.join ((ms.take (k + 1)).map digs) [59] = Lib.join ((ms.take k).map digs) [59] ++ [59] ++ digs ms[k] := by
  rw [take_snoc ms k hk, List.map_append]
  obtain ⟨x, r, hx⟩ : ∃ x r, ms.take k = x :: r := by
    cases h : ms.take k with
    | nil =>
      have h2 : (ms.take k).length = k := by rw [List.length_take]; omega
      rw [h] at h2; simp at h2; omega
    | cons x r => exact ⟨x, r, rfl⟩
  rw [hx, List.map_cons, List.cons_append, Lib.join_cons, Lib.join_cons]
  have e : Lib.joinTail [59] (List.map digs r ++ List.map digs [ms[k]]) = Lib.joinTail [59] (List.map digs r) ++ ([59] ++ digs ms[k]) := by simp [Lib.joinTail]
  rw [e]
  simp
theorem join_fields (ms : List Int) (k : Nat) (hk : k < ms.length) : fieldsOf (Lib.join ((ms.take (k + 1)).map digs) [59]) = (ms.take (k + 1)).map clip65 ∧ Lib.join ((ms.take (k + 1)).map digs) [59] ≠ [] ∧ OkB (Lib.join ((ms.take (k + 1)).map digs) [59]) := by
  induction k with
  | zero =>
    obtain ⟨x, r, rfl⟩ : ∃ x r, ms = x :: r := by
      cases ms with
      | nil => simp at hk
      | cons x r => exact ⟨x, r, rfl⟩
    obtain ⟨h1, h2, h3⟩ := digs_facts x
    simp only [List.take_succ_cons, List.take_zero, List.map_cons, List.map_nil, Lib.join_one]
    exact ⟨by rw [fieldsOf_digits _ (fun b hb => not59 (h2 b hb)) h3, h1], h3, fun b hb => okb_of (h2 b hb)⟩
  | succ k ih =>
    obtain ⟨i1, i2, i3⟩ := ih (by omega)
    obtain ⟨h1, h2, h3⟩ := digs_facts ms[k + 1]
    rw [join_snoc ms (k + 1) hk (by omega)]
    refine ⟨?_, by simp, fun b hb => ?_⟩
    · rw [fieldsOf_semi_digits _ _ (fun b hb => not59 (h2 b hb)), if_neg i2, i1, h1, take_snoc ms (k + 1) hk, List.map_append]
      rfl
    · rcases List.mem_append.1 hb with hb | hb
      · rcases List.mem_append.1 hb with hb | hb
        · exact i3 b hb
        · simp only [List.mem_singleton] at hb; subst hb; rfl
      · exact okb_of (h2 b hb)
theorem fmt_back (ns : List Int) : OkB (fmtL ns) ∧ numsOf (fmtL ns) = (ns.take 30).map clip65 := by
  unfold fmtL
  obtain ⟨ms, hms, hl⟩ : ∃ ms, ms = ns.take 30 ∧ ms.length ≤ 30 := ⟨_, rfl, by rw [List.length_take]; omega⟩
  rw [← hms]
  rcases Nat.eq_zero_or_pos ms.length with h0 | h0
  · obtain rfl := List.eq_nil_of_length_eq_zero h0
    exact ⟨fun b hb => by simp [Lib.join_nil] at hb, rfl⟩
  · obtain ⟨h1, _, h3⟩ := join_fields ms (ms.length - 1) (by omega)
    rw [show ms.length - 1 + 1 = ms.length from by omega, List.take_length] at h1 h3
    refine ⟨h3, ?_⟩
    unfold numsOf
    rw [h1, List.take_of_length_le (by simpa using hl)]
theorem fmt_len (ns : List Int) : (fmtL ns).length ≤ 180 := by
  have := join_len ((ns.take 30).map digs) (fun x hx => by obtain ⟨n, _, rfl⟩ := List.mem_map.1 hx; exact digs_len n)
  rw [List.length_map, List.length_take] at this
  unfold fmtL
  omega
end Go.Proofs.YtpiliicphoacfaaDoor

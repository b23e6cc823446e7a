/-
  Tokens: the id and the numbers of a sequence are all that there is to it. Plain facts.
-/
import Derived.Test.YtnbbepkkedhhgaaGreatDoorTokQ
namespace Go.Proofs.YtnbbepkkedhhgaaGreatDoor

open Go Go.RowKit

/-- What is known of a Csi that can be. -/
theorem csi_valid {c m : Nat} {ps : List Int} {s : ByteArray} {dt : List Nat} (h : checkP 4 c m ps s dt = 0) : dt = [] ∧ (64 ≤ c ∧ c ≤ 126) ∧ (m = 0 ∨ (60 ≤ m ∧ m ≤ 63)) ∧ s.size ≤ 3 ∧ ∀ b ∈ s.data.toList, 32 ≤ b.toNat ∧ b.toNat ≤ 47 := by
  obtain ⟨_, _, h3, _, _, _, hp, hc, hw⟩ := check_zero h
  have hp2 : sameQ 4 0 0 [] (ByteArray.mk #[]) dt 4 0 0 [] (ByteArray.mk #[]) [] = true := hp
  rw [same_zero] at hp2
  simp only [Bool.and_eq_true, decide_eq_true_eq] at hp2
  have hc2 : amongB c 64 126 = true := hc
  unfold amongB at hc2
  unfold writtenB amongB at hw
  simp only [Bool.and_eq_true, Bool.or_eq_true, decide_eq_true_eq, beq_iff_eq] at hc2 hw
  refine ⟨List.length_eq_zero_iff.1 hp2.2.2.2.2, hc2, hw.1, h3, fun b hb => ?_⟩
  have := List.all_eq_true.1 hw.2.1 b hb
  unfold interB amongB at this
  simpa using this
theorem id_four (c m : Nat) (s : ByteArray) : (idP 4 c m s).data.toList = ((if m = 0 then [] else [m]) ++ natL s.data.toList ++ [c]).map UInt8.ofNat := by
  have e : idP 4 c m s = bstr (signsL c m [] s) := rfl
  rw [e, bstr_list]
  unfold signsL
  rw [fmt_none]
  simp [natL]
theorem id_size (c m : Nat) (s : ByteArray) (h : s.size ≤ 3) : 1 ≤ (idP 4 c m s).size ∧ (idP 4 c m s).size ≤ 5 := by
  rw [← dlen, id_four, List.length_map, List.length_append, List.length_append, natL_len, dlen]
  split
  · simp; omega
  · simp; omega
theorem nat_map {l r : List Nat} (h1 : ∀ n ∈ l, n < 256) (h2 : ∀ n ∈ r, n < 256) (h : l.map UInt8.ofNat = r.map UInt8.ofNat) : l = r := by
  apply bstr_inj h1 h2
  apply ByteArray.ext
  apply Array.ext'
  rw [bstr_list, bstr_list, h]
theorem natL_inj {a b : List UInt8} (h : natL a = natL b) : a = b := by
  unfold natL at h
  exact (List.map_inj_right (fun x y e => UInt8.toNat_inj.1 e)).1 h
theorem id_inj {c m c2 m2 : Nat} {s s2 : ByteArray} (hc : 64 ≤ c ∧ c ≤ 126) (hm : m = 0 ∨ (60 ≤ m ∧ m ≤ 63)) (hs : ∀ b ∈ s.data.toList, 32 ≤ b.toNat ∧ b.toNat ≤ 47) (hc2 : 64 ≤ c2 ∧ c2 ≤ 126) (hm2 : m2 = 0 ∨ (60 ≤ m2 ∧ m2 ≤ 63)) (hs2 : ∀ b ∈ s2.data.toList, 32 ≤ b.toNat ∧ b.toNat ≤ 47)
    (h : idP 4 c m s = idP 4 c2 m2 s2) : c = c2 ∧ m = m2 ∧ s = s2 := by
  have e := congrArg (fun x : ByteArray => x.data.toList) h
  simp only [id_four] at e
  have nlt : ∀ (s : ByteArray), (∀ b ∈ s.data.toList, 32 ≤ b.toNat ∧ b.toNat ≤ 47) → ∀ n ∈ natL s.data.toList, 32 ≤ n ∧ n ≤ 47 := by
    intro s hs n hn
    unfold natL at hn
    obtain ⟨b, hb, rfl⟩ := List.mem_map.1 hn
    exact hs b hb
  have hn := nlt s hs
  have hn2 := nlt s2 hs2
  have e2 := nat_map (l := (if m = 0 then [] else [m]) ++ natL s.data.toList ++ [c]) (r := (if m2 = 0 then [] else [m2]) ++ natL s2.data.toList ++ [c2]) (by
    intro n hx
    rw [List.mem_append, List.mem_append] at hx
    rcases hx with (hx | hx) | hx
    · split at hx
      · cases hx
      · have : n = m := by simpa using hx
        omega
    · have := hn n hx; omega
    · have : n = c := by simpa using hx
      omega) (by
    intro n hx
    rw [List.mem_append, List.mem_append] at hx
    rcases hx with (hx | hx) | hx
    · split at hx
      · cases hx
      · have : n = m2 := by simpa using hx
        omega
    · have := hn2 n hx; omega
    · have : n = c2 := by simpa using hx
      omega) e
  have e3 := List.append_inj' e2 rfl
  have hcc : c = c2 := by simpa using e3.2
  have e4 := e3.1
  have fin : natL s.data.toList = natL s2.data.toList → s = s2 := fun h => ByteArray.ext (Array.ext' (natL_inj h))
  by_cases z : m = 0
  · rw [if_pos z] at e4
    by_cases z2 : m2 = 0
    · rw [if_pos z2] at e4
      exact ⟨hcc, by omega, fin (by simpa using e4)⟩
    · rw [if_neg z2] at e4
      exfalso
      have : m2 ∈ natL s.data.toList := by
        rw [List.nil_append] at e4
        rw [e4]; simp
      have := hn m2 this
      omega
  · rw [if_neg z] at e4
    by_cases z2 : m2 = 0
    · rw [if_pos z2] at e4
      exfalso
      have : m ∈ natL s2.data.toList := by
        rw [List.nil_append] at e4
        rw [← e4]; simp
      have := hn2 m this
      omega
    · rw [if_neg z2] at e4
      have e5 : m = m2 ∧ natL s.data.toList = natL s2.data.toList := by simpa using e4
      exact ⟨hcc, e5.1, fin e5.2⟩
theorem fn_same {c m c2 m2 : Nat} {ps ps2 : List Int} {s s2 : ByteArray} {dt dt2 : List Nat} (h : checkP 4 c m ps s dt = 0) (h2 : checkP 4 c2 m2 ps2 s2 dt2 = 0) :
    sameQ 4 c m ps s dt 4 c2 m2 ps2 s2 dt2 = (((idP 4 c m s).toList == (idP 4 c2 m2 s2).toList) && (ps == ps2)) := by
  obtain ⟨d1, q1, q2, q3, q4⟩ := csi_valid h
  obtain ⟨d2, r1, r2, r3, r4⟩ := csi_valid h2
  subst d1 d2
  rw [str_eq]
  unfold sameQ
  by_cases e : idP 4 c m s = idP 4 c2 m2 s2
  · obtain ⟨rfl, rfl, rfl⟩ := id_inj q1 q2 q4 r1 r2 r4 e
    simp
  · rw [decide_eq_false e, Bool.false_and]
    rcases hq : (((4 : Int) == 4) && (((c : Int) == c2) && (((m : Int) == m2) && ((s.toList == s2.toList) && ((ps == ps2) && decide (bstr ([] : List Nat) = bstr [])))))) with _ | _
    · rfl
    · exfalso
      simp only [Bool.and_eq_true, beq_iff_eq] at hq
      apply e
      have hc : c = c2 := by omega
      have hm : m = m2 := by omega
      have hs : s = s2 := by
        have := hq.2.2.2.1
        rw [ByteArray.toList_eq, ByteArray.toList_eq] at this
        exact ByteArray.ext (Array.ext' this)
      rw [hc, hm, hs]
end Go.Proofs.YtnbbepkkedhhgaaGreatDoor

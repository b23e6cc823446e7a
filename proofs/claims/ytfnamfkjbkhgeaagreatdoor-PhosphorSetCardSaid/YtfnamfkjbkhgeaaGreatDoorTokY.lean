/-
  Tokens: the fixed fact; one told as the document's.
  Tokens: the id and the numbers of a sequence are all that there is to it. Plain facts.
  Tokens: unlike tokens that can be have unlike bytes. Plain facts.
  Tokens of the program's own, as letters, of any kind.
  Tokens, the document's own answers: an escape and a byte; what kind of function it is.
  A slice of one's own that is grown within a region that draws its order: what it was is as it was, and so is each other one.
  Tokens, the document's own answers: the bytes of an Esc with Inters.
  Tokens, the document's own answers: their bytes.
-/
import Derived.Test.YtfnamfkjbkhgeaaGreatDoorTokP
import Derived.ArgAppend
import Derived.Lib.ConvBytes
import Derived.Test.YtfnamfkjbkhgeaaGreatDoorParP
namespace Go.Proofs.YtfnamfkjbkhgeaaGreatDoor

open Go Go.RowKit

theorem fmt_six : fmtL [6] = [54] := by
  unfold fmtL digs
  show Lib.join [Lib.decDigits 6] [59] = [54]
  rw [Lib.decDigits, dif_pos (by omega)]
  rfl
theorem fmt_none : fmtL [] = [] := rfl
def dollar : ByteArray := ⟨#[36]⟩
theorem fix_check : checkP 4 112 63 [6] ⟨#[36]⟩ [] = 0 := by decide +kernel
theorem fix_bytes : bytesL 4 112 63 [6] ⟨#[36]⟩ [] true = [155, 63, 54, 36, 112] := by
  show leadL 91 true ++ signsL 112 63 [6] ⟨#[36]⟩ ++ [] = _
  unfold signsL
  rw [fmt_six]
  rfl
theorem fix_id : idP 4 112 63 ⟨#[36]⟩ = ⟨#[63, 36, 112]⟩ := by
  unfold idP signsL
  rw [fmt_none]
  rfl
theorem fix_str : bstr [155, 63, 54, 36, 112] = ⟨#[155, 63, 54, 36, 112]⟩ := rfl


end Go.Proofs.YtfnamfkjbkhgeaaGreatDoor

namespace Go.Proofs.YtfnamfkjbkhgeaaGreatDoor

open Go Go.RowKit

/-- What is known of a Csi that can be. -/
theorem csi_valid {c m : Nat} {ps : List Int} {s : ByteArray} {dt : List Nat} (h : checkP 4 c m ps s dt = 0) : dt = [] ∧ (64 ≤ c ∧ c ≤ 126) ∧ (m = 0 ∨ (60 ≤ m ∧ m ≤ 63)) ∧ s.size ≤ 3 ∧ ∀ b ∈ s.data.toList, 32 ≤ b.toNat ∧ b.toNat ≤ 47 := by
  obtain ⟨_, _, h3, _, _, _, hp, hc, hw⟩ := check_zero h
  have hp2 : sameQ 4 0 0 [] (ByteArray.mk #[]) dt 4 0 0 [] (ByteArray.mk #[]) [] = true := hp
  rw [same_zero] at hp2
  simp only [Bool.and_eq_true, decide_eq_true_eq] at hp2
  have hc2 : amongB c 64 126 = true := hc
  unfold amongB at hc2
  unfold writtenB amongB at hw
  simp only [Bool.and_eq_true, Bool.or_eq_true, decide_eq_true_eq, beq_iff_eq] at hc2 hw
  refine ⟨List.length_eq_zero_iff.1 hp2.2.2.2.2, hc2, hw.1, h3, fun b hb => ?_⟩
  have := List.all_eq_true.1 hw.2.1 b hb
  unfold interB amongB at this
  simpa using this
theorem id_four (c m : Nat) (s : ByteArray) : (idP 4 c m s).data.toList = ((if m = 0 then [] else [m]) ++ natL s.data.toList ++ [c]).map UInt8.ofNat := by
  have e : idP 4 c m s = bstr (signsL c m [] s) := rfl
  rw [e, bstr_list]
  unfold signsL
  rw [fmt_none]
  simp [natL]
theorem id_size (c m : Nat) (s : ByteArray) (h : s.size ≤ 3) : 1 ≤ (idP 4 c m s).size ∧ (idP 4 c m s).size ≤ 5 := by
  rw [← dlen, id_four, List.length_map, List.length_append, List.length_append, natL_len, dlen]
  split
  · simp; omega
  · simp; omega
theorem nat_map {l r : List Nat} (h1 : ∀ n ∈ l, n < 256) (h2 : ∀ n ∈ r, n < 256) (h : l.map UInt8.ofNat = r.map UInt8.ofNat) : l = r := by
  apply bstr_inj h1 h2
  apply ByteArray.ext
  apply Array.ext'
  rw [bstr_list, bstr_list, h]
theorem natL_inj {a b : List UInt8} (h : natL a = natL b) : a = b := by
  unfold natL at h
  exact (List.map_inj_right (fun x y e => UInt8.toNat_inj.1 e)).1 h
theorem id_inj {c m c2 m2 : Nat} {s s2 : ByteArray} (hc : 64 ≤ c ∧ c ≤ 126) (hm : m = 0 ∨ (60 ≤ m ∧ m ≤ 63)) (hs : ∀ b ∈ s.data.toList, 32 ≤ b.toNat ∧ b.toNat ≤ 47) (hc2 : 64 ≤ c2 ∧ c2 ≤ 126) (hm2 : m2 = 0 ∨ (60 ≤ m2 ∧ m2 ≤ 63)) (hs2 : ∀ b ∈ s2.data.toList, 32 ≤ b.toNat ∧ b.toNat ≤ 47)
    (h : idP 4 c m s = idP 4 c2 m2 s2) : c = c2 ∧ m = m2 ∧ s = s2 := by
  have e := congrArg (fun x : ByteArray => x.data.toList) h
  simp only [id_four] at e
  have nlt : ∀ (s : ByteArray), (∀ b ∈ s.data.toList, 32 ≤ b.toNat ∧ b.toNat ≤ 47) → ∀ n ∈ natL s.data.toList, 32 ≤ n ∧ n ≤ 47 := by
    intro s hs n hn
    unfold natL at hn
    obtain ⟨b, hb, rfl⟩ := List.mem_map.1 hn
    exact hs b hb
  have hn := nlt s hs
  have hn2 := nlt s2 hs2
  have e2 := nat_map (l := (if m = 0 then [] else [m]) ++ natL s.data.toList ++ [c]) (r := (if m2 = 0 then [] else [m2]) ++ natL s2.data.toList ++ [c2]) (by
    intro n hx
    rw [List.mem_append, List.mem_append] at hx
    rcases hx with (hx | hx) | hx
    · split at hx
      · cases hx
      · have : n = m := by simpa using hx
        omega
    · have := hn n hx; omega
    · have : n = c := by simpa using hx
      omega) (by
    intro n hx
    rw [List.mem_append, List.mem_append] at hx
    rcases hx with (hx | hx) | hx
    · split at hx
      · cases hx
      · have : n = m2 := by simpa using hx
        omega
    · have := hn2 n hx; omega
    · have : n = c2 := by simpa using hx
      omega) e
  have e3 := List.append_inj' e2 rfl
  have hcc : c = c2 := by simpa using e3.2
  have e4 := e3.1
  have fin : natL s.data.toList = natL s2.data.toList → s = s2 := fun h => ByteArray.ext (Array.ext' (natL_inj h))
  by_cases z : m = 0
  · rw [if_pos z] at e4
    by_cases z2 : m2 = 0
    · rw [if_pos z2] at e4
      exact ⟨hcc, by omega, fin (by simpa using e4)⟩
    · rw [if_neg z2] at e4
      exfalso
      have : m2 ∈ natL s.data.toList := by
        rw [List.nil_append] at e4
        rw [e4]; simp
      have := hn m2 this
      omega
  · rw [if_neg z] at e4
    by_cases z2 : m2 = 0
    · rw [if_pos z2] at e4
      exfalso
      have : m ∈ natL s2.data.toList := by
        rw [List.nil_append] at e4
        rw [← e4]; simp
      have := hn2 m this
      omega
    · rw [if_neg z2] at e4
      have e5 : m = m2 ∧ natL s.data.toList = natL s2.data.toList := by simpa using e4
      exact ⟨hcc, e5.1, fin e5.2⟩
theorem fn_same {c m c2 m2 : Nat} {ps ps2 : List Int} {s s2 : ByteArray} {dt dt2 : List Nat} (h : checkP 4 c m ps s dt = 0) (h2 : checkP 4 c2 m2 ps2 s2 dt2 = 0) :
    sameQ 4 c m ps s dt 4 c2 m2 ps2 s2 dt2 = (((idP 4 c m s).toList == (idP 4 c2 m2 s2).toList) && (ps == ps2)) := by
  obtain ⟨d1, q1, q2, q3, q4⟩ := csi_valid h
  obtain ⟨d2, r1, r2, r3, r4⟩ := csi_valid h2
  subst d1 d2
  rw [str_eq]
  unfold sameQ
  by_cases e : idP 4 c m s = idP 4 c2 m2 s2
  · obtain ⟨rfl, rfl, rfl⟩ := id_inj q1 q2 q4 r1 r2 r4 e
    simp
  · rw [decide_eq_false e, Bool.false_and]
    rcases hq : (((4 : Int) == 4) && (((c : Int) == c2) && (((m : Int) == m2) && ((s.toList == s2.toList) && ((ps == ps2) && decide (bstr ([] : List Nat) = bstr [])))))) with _ | _
    · rfl
    · exfalso
      simp only [Bool.and_eq_true, beq_iff_eq] at hq
      apply e
      have hc : c = c2 := by omega
      have hm : m = m2 := by omega
      have hs : s = s2 := by
        have := hq.2.2.2.1
        rw [ByteArray.toList_eq, ByteArray.toList_eq] at this
        exact ByteArray.ext (Array.ext' this)
      rw [hc, hm, hs]
end Go.Proofs.YtfnamfkjbkhgeaaGreatDoor

namespace Go.Proofs.YtfnamfkjbkhgeaaGreatDoor

open Go Go.RowKit

theorem lead_inj {c d : Nat} {e : Bool} {r r' : List Nat} (h : leadL c e ++ r = leadL d e ++ r') : c = d ∧ r = r' := by
  unfold leadL at h
  by_cases h1 : e = true ∧ 64 ≤ c ∧ c ≤ 95
  · by_cases h2 : e = true ∧ 64 ≤ d ∧ d ≤ 95
    · rw [if_pos h1, if_pos h2] at h
      simp only [List.cons_append, List.nil_append, List.cons.injEq] at h
      exact ⟨by omega, h.2⟩
    · rw [if_pos h1, if_neg h2] at h
      simp only [List.cons_append, List.nil_append, List.cons.injEq] at h
      omega
  · by_cases h2 : e = true ∧ 64 ≤ d ∧ d ≤ 95
    · rw [if_neg h1, if_pos h2] at h
      simp only [List.cons_append, List.nil_append, List.cons.injEq] at h
      omega
    · rw [if_neg h1, if_neg h2] at h
      simp only [List.cons_append, List.nil_append, List.cons.injEq] at h
      exact ⟨h.2.1, h.2.2⟩
theorem lead_one {c x : Nat} {e : Bool} {r : List Nat} (hc : c ≠ 27) (h8 : c < 128 ∨ 160 ≤ c) (h : [c] = leadL x e ++ r) : False := by
  unfold leadL at h
  by_cases h1 : e = true ∧ 64 ≤ x ∧ x ≤ 95
  · rw [if_pos h1] at h
    simp only [List.cons_append, List.nil_append, List.cons.injEq] at h
    omega
  · rw [if_neg h1] at h
    simp only [List.cons_append, List.nil_append, List.cons.injEq] at h
    exact hc h.1
theorem split_at (p : Nat → Prop) : ∀ (a b r r' : List Nat), (∀ x ∈ a, p x) → (∀ x ∈ b, p x) → (∀ x t, r = x :: t → ¬ p x) → (∀ x t, r' = x :: t → ¬ p x) → a ++ r = b ++ r' → a = b ∧ r = r'
  | [], [], _, _, _, _, _, _, h => ⟨rfl, h⟩
  | x :: a, [], r, _, ha, _, _, hr', h => absurd (ha x (by simp)) (hr' x (a ++ r) (by simpa using h.symm))
  | [], y :: b, _, r', _, hb, hr, _, h => absurd (hb y (by simp)) (hr y (b ++ r') (by simpa using h))
  | x :: a, y :: b, r, r', ha, hb, hr, hr', h => by
    simp only [List.cons_append, List.cons.injEq] at h
    obtain ⟨rfl, h⟩ := h
    obtain ⟨rfl, e⟩ := split_at p a b r r' (fun z hz => ha z (by simp [hz])) (fun z hz => hb z (by simp [hz])) hr hr' h
    exact ⟨rfl, e⟩
theorem head_of {a b : List Nat} {x : Nat} {t : List Nat} (h : a ++ b = x :: t) : x ∈ a ∨ ∃ t', b = x :: t' := by
  cases a with
  | nil => exact .inr ⟨t, by simpa using h⟩
  | cons y a => simp only [List.cons_append, List.cons.injEq] at h; exact .inl (by rw [h.1]; simp)
theorem fmt_dig (ps : List Int) : ∀ n ∈ natL (fmtL ps), 48 ≤ n ∧ n ≤ 59 := by
  intro n hn
  obtain ⟨b, hb, rfl⟩ := List.mem_map.1 hn
  have := (fmt_back ps).1 b hb
  unfold okb at this
  simp only [Bool.or_eq_true, beq_iff_eq, Bool.and_eq_true, decide_eq_true_eq, UInt8.le_iff_toNat_le] at this
  rcases this with rfl | ⟨h1, h2⟩
  · exact ⟨by decide, by decide⟩
  · exact ⟨h1, by have : b.toNat ≤ 57 := h2; omega⟩
theorem in_range {ps : List Int} (h : ps.any outB = false) : ps.map clip65 = ps := by
  induction ps with
  | nil => rfl
  | cons x l ih =>
    rw [List.any_cons, Bool.or_eq_false_iff] at h
    rw [List.map_cons, ih h.2]
    have : x = clip65 x := by
      have := h.1
      unfold outB at this
      show x = clipP x 0 65535
      simpa using this
    rw [← this]
theorem fmt_inj {ps ps2 : List Int} (h1 : ps.length ≤ 30) (h2 : ps2.length ≤ 30) (o1 : ps.any outB = false) (o2 : ps2.any outB = false) (h : natL (fmtL ps) = natL (fmtL ps2)) : ps = ps2 := by
  have e := congrArg numsOf (natL_inj h)
  rw [(fmt_back ps).2, (fmt_back ps2).2, List.take_of_length_le h1, List.take_of_length_le h2, in_range o1, in_range o2] at e
  exact e
/-- What a token's parts may be, where they stand behind one another. -/
structure PartsOk (c m : Nat) (ps : List Int) (s : ByteArray) : Prop where
  code : 64 ≤ c ∧ c ≤ 126
  mark : m = 0 ∨ (60 ≤ m ∧ m ≤ 63)
  len : ps.length ≤ 30
  rng : ps.any outB = false
  int : ∀ n ∈ natL s.data.toList, 32 ≤ n ∧ n ≤ 47
theorem signs_inj {c m : Nat} {ps : List Int} {s : ByteArray} {c2 m2 : Nat} {ps2 : List Int} {s2 : ByteArray} {r r' : List Nat} (h1 : PartsOk c m ps s) (h2 : PartsOk c2 m2 ps2 s2) (h : signsL c m ps s ++ r = signsL c2 m2 ps2 s2 ++ r') :
    c = c2 ∧ m = m2 ∧ ps = ps2 ∧ s = s2 ∧ r = r' := by
  unfold signsL at h
  simp only [List.append_assoc, List.cons_append, List.nil_append] at h
  have hm : ∀ {m : Nat}, (m = 0 ∨ (60 ≤ m ∧ m ≤ 63)) → ∀ x ∈ (if m = 0 then ([] : List Nat) else [m]), 60 ≤ x ∧ x ≤ 63 := by
    intro m hm x hx
    split at hx
    · cases hx
    · simp only [List.mem_singleton] at hx; omega
  have hd : ∀ {c m : Nat} {ps : List Int} {s : ByteArray} {r : List Nat}, PartsOk c m ps s → ∀ x t, natL (fmtL ps) ++ (natL s.data.toList ++ c :: r) = x :: t → ¬ (60 ≤ x ∧ x ≤ 63) := by
    intro c m ps s r hp x t hx
    rcases head_of hx with hx | ⟨t', hx⟩
    · have := fmt_dig ps x hx; omega
    · rcases head_of hx with hx | ⟨t', hx⟩
      · have := hp.int x hx; omega
      · simp only [List.cons.injEq] at hx; have := hp.code; omega
  have hd2 : ∀ {c m : Nat} {ps : List Int} {s : ByteArray} {r : List Nat}, PartsOk c m ps s → ∀ x t, natL s.data.toList ++ c :: r = x :: t → ¬ (48 ≤ x ∧ x ≤ 59) := by
    intro c m ps s r hp x t hx
    rcases head_of hx with hx | ⟨t', hx⟩
    · have := hp.int x hx; omega
    · simp only [List.cons.injEq] at hx; have := hp.code; omega
  have hd3 : ∀ {c m : Nat} {ps : List Int} {s : ByteArray} {r : List Nat}, PartsOk c m ps s → ∀ x t, c :: r = x :: t → ¬ (32 ≤ x ∧ x ≤ 47) := by
    intro c m ps s r hp x t hx
    simp only [List.cons.injEq] at hx; have := hp.code; omega
  obtain ⟨e1, h⟩ := split_at (fun x => 60 ≤ x ∧ x ≤ 63) _ _ _ _ (hm h1.mark) (hm h2.mark) (hd h1) (hd h2) h
  obtain ⟨e2, h⟩ := split_at (fun x => 48 ≤ x ∧ x ≤ 59) _ _ _ _ (fmt_dig ps) (fmt_dig ps2) (hd2 h1) (hd2 h2) h
  obtain ⟨e3, h⟩ := split_at (fun x => 32 ≤ x ∧ x ≤ 47) _ _ _ _ h1.int h2.int (hd3 h1) (hd3 h2) h
  simp only [List.cons.injEq] at h
  refine ⟨h.1, ?_, fmt_inj h1.len h2.len h1.rng h2.rng e2, ByteArray.ext (Array.ext' (natL_inj e3)), h.2⟩
  split at e1 <;> split at e1 <;> simp at e1 <;> omega
/-- What is known of a token that can be, kind by kind. -/
def TkV (k : Int) (c m : Nat) (ps : List Int) (s : ByteArray) (dt : List Nat) : Prop :=
  ((k = 1 ∨ k = 2) ∧ c ≠ 27 ∧ (c < 128 ∨ 160 ≤ c) ∧ (k = 2 ↔ c < 32) ∧ m = 0 ∧ ps = [] ∧ s.data.toList = [] ∧ dt = []) ∨
  (k = 3 ∧ 48 ≤ c ∧ c ≤ 126 ∧ (s.data.toList = [] → leadsB c = false) ∧ (∀ n ∈ natL s.data.toList, 32 ≤ n ∧ n ≤ 47) ∧ m = 0 ∧ ps = [] ∧ dt = []) ∨
  (k = 4 ∧ PartsOk c m ps s ∧ dt = []) ∨ (k = 5 ∧ PartsOk c m ps s) ∨ (6 ≤ k ∧ k ≤ 9 ∧ c = 0 ∧ m = 0 ∧ ps = [] ∧ s.data.toList = [])
theorem inter_all {s : ByteArray} (h : s.data.toList.all interB = true) : ∀ n ∈ natL s.data.toList, 32 ≤ n ∧ n ≤ 47 := by
  intro n hn
  obtain ⟨b, hb, rfl⟩ := List.mem_map.1 hn
  have := List.all_eq_true.1 h b hb
  unfold interB amongB at this
  simpa using this
theorem tk_valid {k : Int} {c m : Nat} {ps : List Int} {s : ByteArray} {dt : List Nat} (h : checkP k c m ps s dt = 0) : TkV k c m ps s dt := by
  obtain ⟨z1, z9, z3, z4, _, z6, hp, hc, hw⟩ := check_zero h
  unfold writtenB at hw
  simp only [Bool.and_eq_true, Bool.or_eq_true, beq_iff_eq] at hw
  have hi := inter_all hw.2.1
  have hm : m = 0 ∨ (60 ≤ m ∧ m ≤ 63) := by
    rcases hw.1 with h | h
    · exact .inl h
    · unfold amongB at h; right; simpa using h
  have h9 : k = 1 ∨ k = 2 ∨ k = 3 ∨ k = 4 ∨ k = 5 ∨ 6 ≤ k := by omega
  have nl : ∀ {s : ByteArray}, s.size = 0 → s.data.toList = [] := fun {s} h => List.length_eq_zero_iff.1 (by rw [dlen]; exact h)
  unfold TkV
  rcases h9 with rfl | rfl | rfl | rfl | rfl | h6
  · have hp2 : sameQ 1 0 m ps s dt 1 0 0 [] (ByteArray.mk #[]) [] = true := hp
    rw [same_zero] at hp2
    have hc2 : (amongB c 32 126 || decide (160 ≤ c)) = true := hc
    unfold amongB at hc2
    simp only [Bool.and_eq_true, Bool.or_eq_true, decide_eq_true_eq, beq_iff_eq] at hp2 hc2
    exact .inl ⟨.inl rfl, by omega, by omega, by omega, by omega, List.length_eq_zero_iff.1 hp2.2.2.2.1, nl hp2.2.2.1, List.length_eq_zero_iff.1 hp2.2.2.2.2⟩
  · have hp2 : sameQ 2 0 m ps s dt 2 0 0 [] (ByteArray.mk #[]) [] = true := hp
    rw [same_zero] at hp2
    have hc2 : (amongB c 1 31 && ((c != 24) && (c != 27))) = true := hc
    unfold amongB at hc2
    simp only [Bool.and_eq_true, decide_eq_true_eq, beq_iff_eq, bne_iff_ne] at hp2 hc2
    exact .inl ⟨.inr rfl, hc2.2.2, by omega, by omega, by omega, List.length_eq_zero_iff.1 hp2.2.2.2.1, nl hp2.2.2.1, List.length_eq_zero_iff.1 hp2.2.2.2.2⟩
  · have hp2 : sameQ 3 0 m ps (ByteArray.mk #[]) dt 3 0 0 [] (ByteArray.mk #[]) [] = true := hp
    rw [same_zero] at hp2
    have hc2 : (amongB c 48 126 && (!decide (s.size = 0) || !leadsB c)) = true := hc
    unfold amongB at hc2
    simp only [Bool.and_eq_true, Bool.or_eq_true, decide_eq_true_eq, beq_iff_eq, Bool.not_eq_true', decide_eq_false_iff_not] at hp2 hc2
    refine .inr (.inl ⟨rfl, hc2.1.1, hc2.1.2, fun hs => ?_, hi, by omega, List.length_eq_zero_iff.1 hp2.2.2.2.1, List.length_eq_zero_iff.1 hp2.2.2.2.2⟩)
    rcases hc2.2 with h | h
    · exact absurd (by rw [← dlen, hs]; rfl) h
    · exact h
  · have hp2 : sameQ 4 0 0 [] (ByteArray.mk #[]) dt 4 0 0 [] (ByteArray.mk #[]) [] = true := hp
    rw [same_zero] at hp2
    have hc2 : amongB c 64 126 = true := hc
    unfold amongB at hc2
    simp only [Bool.and_eq_true, decide_eq_true_eq, beq_iff_eq] at hp2 hc2
    exact .inr (.inr (.inl ⟨rfl, ⟨hc2, hm, z4, z6, hi⟩, List.length_eq_zero_iff.1 hp2.2.2.2.2⟩))
  · have hc2 : amongB c 64 126 = true := hc
    unfold amongB at hc2
    simp only [Bool.and_eq_true, decide_eq_true_eq] at hc2
    exact .inr (.inr (.inr (.inl ⟨rfl, ⟨hc2, hm, z4, z6, hi⟩⟩)))
  · have hp2 : sameQ k c m ps s [] k 0 0 [] (ByteArray.mk #[]) [] = true := by
      unfold pureB at hp
      rwa [if_neg (by omega), if_neg (by omega), if_neg (by omega), if_neg (by omega)] at hp
    rw [same_zero] at hp2
    simp only [Bool.and_eq_true, decide_eq_true_eq, beq_iff_eq] at hp2
    exact .inr (.inr (.inr (.inr ⟨h6, z9, by omega, by omega, List.length_eq_zero_iff.1 hp2.2.2.2.1, nl hp2.2.2.1⟩)))
/-- How the bytes of a token begin. -/
theorem bytes_form {k : Int} {c m : Nat} {ps : List Int} {s : ByteArray} {dt : List Nat} (e : Bool) (h : TkV k c m ps s dt) :
    ((k = 1 ∨ k = 2) ∧ bytesL k c m ps s dt e = [c]) ∨
    (k = 3 ∧ s.data.toList = [] ∧ bytesL k c m ps s dt e = leadL c e ++ []) ∨
    (k = 3 ∧ ∃ b t, natL s.data.toList = b :: t ∧ 32 ≤ b ∧ b ≤ 47 ∧ bytesL k c m ps s dt e = leadL b e ++ (t ++ [c])) ∨
    (4 ≤ k ∧ k ≤ 9 ∧ bytesL k c m ps s dt e = leadL (begN k) e ++ ((if k = 4 ∨ k = 5 then signsL c m ps s else []) ++ (if k = 4 then [] else dt ++ leadL 92 e))) := by
  rcases h with ⟨hk, _⟩ | ⟨rfl, _, _, _, hi, rfl, rfl, rfl⟩ | ⟨rfl, _⟩ | ⟨rfl, _⟩ | ⟨h6, h9, _⟩
  · exact .inl ⟨hk, if_pos hk⟩
  · have eb : bytesL 3 c 0 [] s [] e = escL c 0 [] s e := rfl
    rw [eb]
    unfold escL
    cases hs : natL s.data.toList with
    | nil =>
      have h0 : s.data.toList = [] := List.map_eq_nil_iff.1 hs
      refine .inr (.inl ⟨rfl, h0, ?_⟩)
      rw [if_pos (by rw [← dlen, h0]; rfl), List.append_nil]
    | cons b t =>
      have hb := hi b (by rw [hs]; simp)
      refine .inr (.inr (.inl ⟨rfl, b, t, rfl, hb.1, hb.2, ?_⟩))
      rw [if_neg (by rw [← dlen, ← natL_len, hs]; simp)]
      unfold signsL leadL
      rw [fmt_none, if_pos rfl, if_neg (by omega), hs]
      rfl
  · exact .inr (.inr (.inr ⟨by omega, by omega, by show leadL 91 e ++ signsL c m ps s ++ [] = _; rw [List.append_assoc]; rfl⟩))
  · exact .inr (.inr (.inr ⟨by omega, by omega, by show leadL 80 e ++ signsL c m ps s ++ (dt ++ leadL 92 e) = _; rw [List.append_assoc]; rfl⟩))
  · refine .inr (.inr (.inr ⟨by omega, by omega, ?_⟩))
    unfold bytesL
    rw [if_neg (by omega), if_neg (by omega), List.append_assoc]
theorem beg_inj {k k2 : Int} (h : 4 ≤ k ∧ k ≤ 9) (h2 : 4 ≤ k2 ∧ k2 ≤ 9) (e : begN k = begN k2) : k = k2 := by
  have a : k = 4 ∨ k = 5 ∨ k = 6 ∨ k = 7 ∨ k = 8 ∨ k = 9 := by omega
  have b : k2 = 4 ∨ k2 = 5 ∨ k2 = 6 ∨ k2 = 7 ∨ k2 = 8 ∨ k2 = 9 := by omega
  rcases a with rfl | rfl | rfl | rfl | rfl | rfl <;> rcases b with rfl | rfl | rfl | rfl | rfl | rfl <;> first | rfl | (exact absurd e (by decide))
theorem beg_leads {k : Int} (h : 4 ≤ k ∧ k ≤ 9) : leadsB (begN k) = true ∧ 80 ≤ begN k := by
  have a : k = 4 ∨ k = 5 ∨ k = 6 ∨ k = 7 ∨ k = 8 ∨ k = 9 := by omega
  rcases a with rfl | rfl | rfl | rfl | rfl | rfl <;> exact ⟨by decide, by decide⟩
theorem bytes_inj {k : Int} {c m : Nat} {ps : List Int} {s : ByteArray} {dt : List Nat} {k2 : Int} {c2 m2 : Nat} {ps2 : List Int} {s2 : ByteArray} {dt2 : List Nat} (e : Bool) (h : TkV k c m ps s dt) (h2 : TkV k2 c2 m2 ps2 s2 dt2)
    (he : bytesL k c m ps s dt e = bytesL k2 c2 m2 ps2 s2 dt2 e) : k = k2 ∧ c = c2 ∧ m = m2 ∧ ps = ps2 ∧ s = s2 ∧ dt = dt2 := by
  have nil2 : ∀ {s s2 : ByteArray}, s.data.toList = [] → s2.data.toList = [] → s = s2 := fun {s s2} a b => ByteArray.ext (Array.ext' (a.trans b.symm))
  rcases bytes_form e h with ⟨hk, f⟩ | ⟨hk, hs, f⟩ | ⟨hk, b, t, hs, hb1, hb2, f⟩ | ⟨hk, hk', f⟩ <;>
    rcases bytes_form e h2 with ⟨gk, g⟩ | ⟨gk, gs, g⟩ | ⟨gk, b', t', gs, gb1, gb2, g⟩ | ⟨gk, gk', g⟩ <;> rw [f, g] at he
  · rcases h with ⟨_, _, _, q, rfl, rfl, qs, rfl⟩ | h | h | h | h
    · rcases h2 with ⟨_, _, _, q2, rfl, rfl, qs2, rfl⟩ | h2 | h2 | h2 | h2
      · have hc : c = c2 := by simpa using he
        subst hc
        exact ⟨by omega, rfl, rfl, rfl, nil2 qs qs2, rfl⟩
      all_goals (exfalso; have := h2.1; omega)
    all_goals (exfalso; have := h.1; omega)
  · exfalso
    rcases h with ⟨_, q1, q2, _⟩ | h | h | h | h
    · exact lead_one q1 q2 he
    all_goals (have := h.1; omega)
  · exfalso
    rcases h with ⟨_, q1, q2, _⟩ | h | h | h | h
    · exact lead_one q1 q2 he
    all_goals (have := h.1; omega)
  · exfalso
    rcases h with ⟨_, q1, q2, _⟩ | h | h | h | h
    · exact lead_one q1 q2 he
    all_goals (have := h.1; omega)
  · exfalso
    rcases h2 with ⟨_, q1, q2, _⟩ | h2 | h2 | h2 | h2
    · exact lead_one q1 q2 he.symm
    all_goals (have := h2.1; omega)
  · subst hk gk
    rcases h with h | ⟨_, _, _, _, _, rfl, rfl, rfl⟩ | h | h | h
    · exfalso; have := h.1; omega
    · rcases h2 with h2 | ⟨_, _, _, _, _, rfl, rfl, rfl⟩ | h2 | h2 | h2
      · exfalso; have := h2.1; omega
      · exact ⟨rfl, (lead_inj he).1, rfl, rfl, nil2 hs gs, rfl⟩
      all_goals (exfalso; have := h2.1; omega)
    all_goals (exfalso; have := h.1; omega)
  · exfalso
    have := (lead_inj he).1
    rcases h with h | ⟨_, _, _, _, _, rfl, rfl, rfl⟩ | h | h | h
    · have := h.1; omega
    · omega
    all_goals (have := h.1; omega)
  · exfalso
    have e1 := (lead_inj he).1
    have e2 := (beg_leads ⟨gk, gk'⟩).1
    rcases h with h | ⟨_, _, _, q, _, rfl, rfl, rfl⟩ | h | h | h
    · have := h.1; omega
    · rw [← e1, q hs] at e2; cases e2
    all_goals (have := h.1; omega)
  · exfalso
    rcases h2 with ⟨_, q1, q2, _⟩ | h2 | h2 | h2 | h2
    · exact lead_one q1 q2 he.symm
    all_goals (have := h2.1; omega)
  · exfalso
    have := (lead_inj he).1
    rcases h2 with h2 | ⟨_, _, _, _, _, rfl, rfl, rfl⟩ | h2 | h2 | h2
    · have := h2.1; omega
    · omega
    all_goals (have := h2.1; omega)
  · subst hk gk
    obtain ⟨e1, e2⟩ := lead_inj he
    obtain ⟨e3, e4⟩ := List.append_inj' e2 rfl
    rcases h with h | ⟨_, _, _, _, _, rfl, rfl, rfl⟩ | h | h | h
    · exfalso; have := h.1; omega
    · rcases h2 with h2 | ⟨_, _, _, _, _, rfl, rfl, rfl⟩ | h2 | h2 | h2
      · exfalso; have := h2.1; omega
      · exact ⟨rfl, by simpa using e4, rfl, rfl, ByteArray.ext (Array.ext' (natL_inj (by rw [hs, gs, e1, e3]))), rfl⟩
      all_goals (exfalso; have := h2.1; omega)
    all_goals (exfalso; have := h.1; omega)
  · exfalso
    have e1 := (lead_inj he).1
    have := (beg_leads ⟨gk, gk'⟩).2
    omega
  · exfalso
    rcases h2 with ⟨_, q1, q2, _⟩ | h2 | h2 | h2 | h2
    · exact lead_one q1 q2 he.symm
    all_goals (have := h2.1; omega)
  · exfalso
    have e1 := (lead_inj he).1
    have e2 := (beg_leads ⟨hk, hk'⟩).1
    rcases h2 with h2 | ⟨_, _, _, q, _, rfl, rfl, rfl⟩ | h2 | h2 | h2
    · have := h2.1; omega
    · rw [e1, q gs] at e2; cases e2
    all_goals (have := h2.1; omega)
  · exfalso
    have e1 := (lead_inj he).1
    have := (beg_leads ⟨hk, hk'⟩).2
    omega
  · obtain ⟨e1, e2⟩ := lead_inj he
    obtain rfl := beg_inj ⟨hk, hk'⟩ ⟨gk, gk'⟩ e1
    clear f g he e1
    rcases h with h | h | ⟨rfl, p1, rfl⟩ | ⟨rfl, p1⟩ | ⟨h6, h9, rfl, rfl, rfl, qs⟩
    · exfalso; have := h.1; omega
    · exfalso; have := h.1; omega
    · rcases h2 with h2 | h2 | ⟨_, p2, rfl⟩ | h2 | h2
      · exfalso; have := h2.1; omega
      · exfalso; have := h2.1; omega
      · obtain ⟨rfl, rfl, rfl, rfl, _⟩ := signs_inj p1 p2 e2
        exact ⟨rfl, rfl, rfl, rfl, rfl, rfl⟩
      all_goals (exfalso; have := h2.1; omega)
    · rcases h2 with h2 | h2 | h2 | ⟨_, p2⟩ | h2
      · exfalso; have := h2.1; omega
      · exfalso; have := h2.1; omega
      · exfalso; have := h2.1; omega
      · obtain ⟨rfl, rfl, rfl, rfl, e3⟩ := signs_inj p1 p2 e2
        exact ⟨rfl, rfl, rfl, rfl, rfl, List.append_cancel_right e3⟩
      · exfalso; have := h2.1; omega
    · rcases h2 with h2 | h2 | h2 | h2 | ⟨_, _, rfl, rfl, rfl, qs2⟩
      · exfalso; have := h2.1; omega
      · exfalso; have := h2.1; omega
      · exfalso; have := h2.1; omega
      · exfalso; have := h2.1; omega
      · have h45 : ¬ (k = 4 ∨ k = 5) := by omega
        have h4 : ¬ k = 4 := by omega
        simp only [if_neg h45, if_neg h4, List.nil_append] at e2
        exact ⟨rfl, rfl, rfl, rfl, nil2 qs qs2, List.append_cancel_right e2⟩
theorem lead_lt (c : Nat) (hc : c < 192) (e : Bool) : ∀ n ∈ leadL c e, n < 256 := by
  intro n hn
  unfold leadL at hn
  split at hn
  · simp only [List.mem_singleton] at hn; omega
  · simp only [List.mem_cons, List.not_mem_nil, or_false] at hn; omega
theorem natL_lt (l : List UInt8) : ∀ n ∈ natL l, n < 256 := by
  intro n hn
  obtain ⟨b, _, rfl⟩ := List.mem_map.1 hn
  exact b.toNat_lt
theorem bytes_lt {k : Int} {c m : Nat} {ps : List Int} {s : ByteArray} {dt : List Nat} (e : Bool) (hc : c < 256) (hm : m < 256) (hd : ∀ n ∈ dt, n < 256) (h : TkV k c m ps s dt) : ∀ n ∈ bytesL k c m ps s dt e, n < 256 := by
  have hs : ∀ n ∈ signsL c m ps s, n < 256 := by
    intro n hn
    unfold signsL at hn
    simp only [List.mem_append, List.mem_singleton] at hn
    rcases hn with ((hn | hn) | hn) | hn
    · split at hn
      · cases hn
      · simp only [List.mem_singleton] at hn; omega
    · exact natL_lt _ n hn
    · exact natL_lt _ n hn
    · omega
  have hb : begN k < 192 := by unfold begN; (repeat' split) <;> omega
  intro n hn
  rcases bytes_form e h with ⟨hk, f⟩ | ⟨hk, hs0, f⟩ | ⟨hk, b, t, hs0, hb1, hb2, f⟩ | ⟨hk, hk', f⟩ <;> rw [f] at hn
  · simp only [List.mem_singleton] at hn; omega
  · rw [List.append_nil] at hn
    refine lead_lt c ?_ e n hn
    rcases h with h | h | h | h | h
    · have := h.1; omega
    · have := h.2.2.1; omega
    · have := h.1; omega
    · have := h.1; omega
    · have := h.1; omega
  · simp only [List.mem_append, List.mem_singleton] at hn
    rcases hn with hn | hn | hn
    · exact lead_lt b (by omega) e n hn
    · exact natL_lt s.data.toList n (by rw [hs0]; simp [hn])
    · omega
  · simp only [List.mem_append] at hn
    rcases hn with hn | hn | hn
    · exact lead_lt _ hb e n hn
    · split at hn
      · exact hs n hn
      · cases hn
    · split at hn
      · cases hn
      · rcases List.mem_append.1 hn with hn | hn
        · exact hd n hn
        · exact lead_lt 92 (by omega) e n hn
theorem same_self (k c m : Int) (ps : List Int) (s : ByteArray) (dt : List Nat) : sameQ k c m ps s dt k c m ps s dt = true := by
  unfold sameQ; simp
/-- Of tokens that can be: just equal bytes, just the same. -/
theorem unlike {k : Int} {c m : Nat} {ps : List Int} {s : ByteArray} {dt : List Nat} {k2 : Int} {c2 m2 : Nat} {ps2 : List Int} {s2 : ByteArray} {dt2 : List Nat} (e : Bool) (hc : c < 256) (hm : m < 256) (hd : ∀ n ∈ dt, n < 256) (hc2 : c2 < 256) (hm2 : m2 < 256) (hd2 : ∀ n ∈ dt2, n < 256)
    (h : checkP k c m ps s dt = 0) (h2 : checkP k2 c2 m2 ps2 s2 dt2 = 0) :
    ((bstr (bytesL k c m ps s dt e)).toList == (bstr (bytesL k2 c2 m2 ps2 s2 dt2 e)).toList) = sameQ k c m ps s dt k2 c2 m2 ps2 s2 dt2 := by
  rw [str_eq, Bool.eq_iff_iff, decide_eq_true_eq]
  constructor
  · intro he
    obtain ⟨rfl, rfl, rfl, rfl, rfl, rfl⟩ := bytes_inj e (tk_valid h) (tk_valid h2) (bstr_inj (bytes_lt e hc hm hd (tk_valid h)) (bytes_lt e hc2 hm2 hd2 (tk_valid h2)) he)
    exact same_self _ _ _ _ _ _
  · intro hs
    unfold sameQ at hs
    simp only [Bool.and_eq_true, beq_iff_eq, decide_eq_true_eq] at hs
    obtain ⟨rfl, h1, h3, h4, rfl, h6⟩ := hs
    obtain rfl : c = c2 := by omega
    obtain rfl : m = m2 := by omega
    obtain rfl : s = s2 := by
      rw [ByteArray.toList_eq, ByteArray.toList_eq] at h4
      exact ByteArray.ext (Array.ext' h4)
    obtain rfl := bstr_inj hd hd2 h6
    rfl
end Go.Proofs.YtfnamfkjbkhgeaaGreatDoor

namespace Go.Proofs.YtfnamfkjbkhgeaaGreatDoor

open Go Go.RowKit

def TlP (k : Int) (c m : Nat) (ps : List Int) (s : ByteArray) (dt : List Nat) (u : Value) : Prop := ∃ P pc D dc, u = .agg (tkC k (c : Int) (m : Int) P ps pc s D dt dc) ∧ ps.length ≤ pc ∧ dt.length ≤ dc
def TlF (B : Nat) (k : Int) (c m : Nat) (ps : List Int) (s : ByteArray) (dt : List Nat) (u : Value) (W : World) : Prop := ∃ P pc D dc, u = .agg (tkC k (c : Int) (m : Int) P ps pc s D dt dc) ∧ OInts W B (.slice P ps.length pc) ps ∧ OByt W B (.slice D dt.length dc) dt
def cellsV : Value → Array Value
  | .agg cs => cs
  | _ => #[]
theorem own_stab2 {ks : Kinds} {wr w w' : World} {T : TypeId} {n : Nat} {v : Value} {xs : List Value} (h : T ∉ boxes ks) (hk : Kept ks wr w w') (ho : w.ownsRow wr.heap.size T 1 v n xs) : w'.ownsRow wr.heap.size T 1 v n xs := by
  obtain ⟨hl, hr⟩ := ho
  rcases hr with ⟨rfl, hn⟩ | ⟨g, cap, cur, rfl, hb, hg, r⟩
  · exact ⟨hl, .inl ⟨rfl, hn⟩⟩
  · have hlt : g < w.heap.size := Blk.lt (show Blk w g T cur from hg)
    refine ⟨hl, .inr ⟨g, cap, cur, rfl, hb, (hk.block g hlt hb (fun cs T' fr e => ?_)).trans hg, r⟩⟩
    rw [hg] at e
    injection e with e
    injection e with _ e2 _
    rw [← e2]
    exact h
theorem tl_stab (ks : Kinds) (wr : World) (k : Int) (c m : Nat) (ps : List Int) (s : ByteArray) (dt : List Nat) (h1 : 3 ∉ boxes ks) (h2 : 5 ∉ boxes ks) : ∀ v w w', Kept ks wr w w' → TlF wr.heap.size k c m ps s dt v w → TlF wr.heap.size k c m ps s dt v w' := by
  rintro v w w' hk ⟨P, pc, D, dc, e, ho, hb⟩
  exact ⟨P, pc, D, dc, e, own_stab2 h1 hk ho, own_stab2 h2 hk hb⟩
theorem tl_same {B : Nat} {k : Int} {c m : Nat} {ps : List Int} {s : ByteArray} {dt : List Nat} {P D : Option Addr} {pc dc : Nat} {W : World} (h : TlF B k c m ps s dt (.agg (tkC k (c : Int) (m : Int) P ps pc s D dt dc)) W) : OInts W B (.slice P ps.length pc) ps ∧ OByt W B (.slice D dt.length dc) dt := by
  obtain ⟨P', pc', D', dc', e, ho, hb⟩ := h
  unfold tkC at e
  simp only [Value.agg.injEq, Array.mk.injEq, List.cons.injEq, Value.slice.injEq, true_and, and_true] at e
  obtain ⟨⟨rfl, rfl⟩, rfl, rfl⟩ := e
  exact ⟨ho, hb⟩

/-- What is answered of the bytes, where the token can be. -/
theorem bytes_zero (k : Int) (c m : Nat) (P : Option Addr) (ps : List Int) (pc : Nat) (s : ByteArray) (D : Option Addr) (dt : List Nat) (dc : Nat) (hc : c < 256) (hsz : s.size ≤ maxLen) (hp : ps.length ≤ maxLen) (hpc : ps.length ≤ pc) (hd : dt.length ≤ maxLen) (eight : Bool) (hz : checkP k c m ps s dt = 0) (w : World) (ht : Ten w) (hr : RInts w P ps) (hb : RByt w D dt) :
    Calls Tryz.prog 96 #[.agg (tkC k (c : Int) (m : Int) P ps pc s D dt dc), .bool eight] w fun e w' => ∃ A n, e = .returned (.tuple #[.slice A (bytesL k c m ps s dt eight).length n, .int .i64 0]) ∧ RByt w' A (bytesL k c m ps s dt eight) ∧ Below w.heap.size w w' := by
  refine (bytes_any k c m P ps pc s D dt dc hc hsz hp hpc hd eight w ht hr hb).mono ?_
  rintro e w' ⟨h | ⟨_, v, rfl, ho⟩, hbl⟩
  · exact absurd hz h.1
  · obtain ⟨A, n, rfl⟩ := ho.form
    exact ⟨A, n, rfl, ho.reads, hbl⟩
end Go.Proofs.YtfnamfkjbkhgeaaGreatDoor

namespace Go.Proofs.YtfnamfkjbkhgeaaGreatDoor

open Go Go.RowKit


theorem conv_new1 (W : World) (n : Nat) : (convert 63 9 (.slice (some ⟨W.heap.size, 0, none⟩) 1 1)).run Tryz.prog (W.alloc (.cells #[.int .u8 (n : Int)] 5)) = .ok (.string (bstr [n])) (W.alloc (.cells #[.int .u8 (n : Int)] 5)) := by
  have h : RByt (W.alloc (.cells #[.int .u8 (n : Int)] 5)) (some ⟨W.heap.size, 0, none⟩) [n] := Reads.of_own (World.ownsRow_lit (e := 5) (size := 1) W #[.int .u8 (n : Int)] 1 (Nat.le_refl _) (by unfold maxLen; omega) rfl)
  exact conv_by h 1
theorem bstr_append (a b : List Nat) : bstr (a ++ b) = bstr a ++ bstr b := by
  apply ByteArray.ext
  apply Array.ext'
  rw [bstr_list, List.map_append]
  show _ = (bstr a ++ bstr b).data.toList
  rw [ByteArray.data_append, Array.toList_append, bstr_list, bstr_list]
theorem bstr_nat (s : ByteArray) : bstr (natL s.data.toList) = s := by
  apply ByteArray.ext
  apply Array.ext'
  rw [bstr_list]
  unfold natL
  rw [List.map_map]
  have : (UInt8.ofNat ∘ UInt8.toNat) = id := by funext x; simp
  rw [this, List.map_id]
theorem id_parts (c m : Nat) (s : ByteArray) : bstr (signsL c m [] s) = (if m = 0 then (ByteArray.mk #[]) else bstr [m]) ++ s ++ bstr [c] := by
  unfold signsL
  rw [fmt_none]
  simp only [bstr_append, bstr_nat]
  have e0 : bstr (natL []) = ByteArray.mk #[] := rfl
  rw [e0]
  by_cases h : m = 0
  · rw [if_pos h, if_pos h]
    apply ByteArray.ext; apply Array.ext'
    simp [ByteArray.data_append, bstr]
    rfl
  · rw [if_neg h, if_neg h]
    apply ByteArray.ext; apply Array.ext'
    simp [ByteArray.data_append]


end Go.Proofs.YtfnamfkjbkhgeaaGreatDoor

namespace Go.Proofs.YtfnamfkjbkhgeaaGreatDoor

open Go Go.RowKit

section

variable {P : Program} (w : World)

theorem below_gn {w w' : World} (h : w.grownBy w' none) : Below w.heap.size w w' := ⟨h.os, h.tape, h.output, h.size, fun k hk => h.block k hk (by simp)⟩
theorem run_append_mild (base : Nat) (t ty e : TypeId) (i : TypeInfo) (z : Value) (bytes : Nat) (ht : P.underlying t = some (.slice e)) (hi : P.info? e = some i) (hz : i.zero = some z)
    (hsize : i.size = 1) (hby : i.bytes = bytes) (hzs : z.cells.size = 1)
    (g n cap : Nat) (xs : List Value) (hown : w.ownsRow base e 1 (.slice (some ⟨g, 0, none⟩) n cap) n xs)
    (a : Addr) (m c : Nat) (news : List Value) (hl : news.length = m) (hnews : ∀ j u, news[j]? = some u → w.cell? (a.add j) = some u) (h1 : ∀ u ∈ news, u.oneCell' = true)
    (h63 : n + m ≤ maxLen) (hbytes : (n + m) * bytes ≤ 140737488355328) (hbase : base ≤ w.heap.size) :
    ∃ u w', (Builtin.append_ #[t, t] ty #[.slice (some ⟨g, 0, none⟩) n cap, .slice (some a) m c]).run P w = .ok u w' ∧ w'.ownsRow base e 1 u (n + m) (xs ++ news) ∧ Below base w w' ∧
      (∀ v n' ys, (n' ≤ n ∨ (n' = n + m ∧ ys = xs ++ news)) → w.ownsRow base e 1 v n' ys → w'.ownsRow base e 1 v n' ys) ∧
      ∀ (g2 : Nat) cur2 T2 fz2, fz2 ≠ (0, 0) → w.heap[g2]? = some (.cells cur2 T2 fz2) → w'.heap[g2]? = some (.cells cur2 T2 fz2) := by
  have hown0 := hown
  rcases hown.2 with ⟨h, _⟩ | ⟨g', cap', cur, h, hbg, hg, hnc, hcm, hcs, htake⟩
  · simp at h
  · simp only [Value.slice.injEq, Option.some.injEq, Addr.mk.injEq, and_true, true_and] at h
    obtain ⟨rfl, rfl⟩ := h
    by_cases hroom : n + m ≤ cap
    · obtain ⟨w', hr, ho', hgr⟩ := run_append_fits (P := P) w base t ty e i 1 ht hi hsize g n cap xs hown0 a m c news (by simpa using hl) hnews h1 hroom
      refine ⟨_, w', hr, ho', ⟨hgr.os, hgr.tape, hgr.output, hgr.size, fun k hk => hgr.block k (by omega) (by simp; omega)⟩, ?_, fun g2 cur2 T2 fz2 hf hg2 => ?_⟩
      rotate_left
      · have hlt : g2 < w.heap.size := by
          rcases Nat.lt_or_ge g2 w.heap.size with h | h
          · exact h
          · rw [Array.getElem?_eq_none h] at hg2; cases hg2
        refine (hgr.block g2 hlt (by
          simp only [ne_eq, Option.some.injEq]
          rintro rfl
          rw [hg] at hg2
          injection hg2 with hg2
          injection hg2 with _ _ e3
          exact hf e3.symm)).trans hg2
      intro v n' ys hn' hv
      obtain ⟨hl', hv'⟩ := hv
      rcases hv' with ⟨rfl, h0⟩ | ⟨g2, cap2, cur2, rfl, hb2, hg2, hn2, hc2, hs2, ht2⟩
      · exact ⟨hl', .inl ⟨rfl, h0⟩⟩
      · have hlt : g2 < w.heap.size := Blk.lt (show Blk w g2 e cur2 from hg2)
        by_cases e2 : g2 = g
        · subst e2
          rw [hg] at hg2
          injection hg2 with hg2
          injection hg2 with hg2
          subst hg2
          rcases ho'.2 with ⟨h, _⟩ | ⟨g3, cap3, cur3, h, _, hg3, _, _, hs3, ht3⟩
          · simp at h
          · simp only [Value.slice.injEq, Option.some.injEq, Addr.mk.injEq, and_true, true_and] at h
            obtain ⟨rfl, rfl⟩ := h
            refine ⟨hl', .inr ⟨g2, cap2, cur3, rfl, hb2, hg3, hn2, hc2, by rw [hs3, ← hs2, hcs], ?_⟩⟩
            rcases hn' with hn' | ⟨rfl, rfl⟩
            · rw [← ht2]
              have q1 : cur3.toList.take (n' * 1) = (xs ++ news).take (n' * 1) := by rw [← ht3, List.take_take]; congr 1; omega
              have q2 : cur.toList.take (n' * 1) = xs.take (n' * 1) := by rw [← htake, List.take_take]; congr 1; omega
              rw [q1, q2, List.take_append_of_le_length]
              rw [hown0.1]; omega
            · exact ht3
        · exact ⟨hl', .inr ⟨g2, cap2, cur2, rfl, hb2, (hgr.block g2 hlt (by simp; exact e2)).trans hg2, hn2, hc2, hs2, ht2⟩⟩
    · obtain ⟨u, w', hr, ho', hgr⟩ := run_append_arg_grows (P := P) w t ty e i z 1 bytes ht hi hz hsize hby hzs (by decide) ⟨g, 0, none⟩ n cap xs hown0.1 (fun j u hu => by
          have hj : j < n := by
            have := (List.getElem?_eq_some_iff.1 hu).1
            rw [hown0.1] at this; omega
          have := World.ownsRow.cellAt hown0 j (by omega)
          have ha : (⟨g, 0, none⟩ : Addr).add j = ⟨g, j, none⟩ := by unfold Addr.add; split <;> simp_all
          rw [ha, this, hu]) a m c news (by simpa using hl) hnews (by omega) h63 hbytes
      have hb := below_gn hgr
      refine ⟨u, w', hr, own_base ho' hbase, hb.mono hbase, ?_, fun g2 cur2 T2 fz2 _ hg2 => ?_⟩
      rotate_left
      · have hlt : g2 < w.heap.size := by
          rcases Nat.lt_or_ge g2 w.heap.size with h | h
          · exact h
          · rw [Array.getElem?_eq_none h] at hg2; cases hg2
        exact (hb.block g2 hlt).trans hg2
      intro v n' ys _ hv
      obtain ⟨hl', hv'⟩ := hv
      rcases hv' with ⟨rfl, h0⟩ | ⟨g2, cap2, cur2, rfl, hb2, hg2, hn2, hc2, hs2, ht2⟩
      · exact ⟨hl', .inl ⟨rfl, h0⟩⟩
      · have hlt : g2 < w.heap.size := Blk.lt (show Blk w g2 e cur2 from hg2)
        exact ⟨hl', .inr ⟨g2, cap2, cur2, rfl, hb2, (hb.block g2 hlt).trans hg2, hn2, hc2, hs2, ht2⟩⟩
end

/-- No box and no store among the kinds: what turns of old memory is nothing. -/
theorem mild_of {ks : Kinds} {ops : Array Oper} {i : Nat} {wr w w' : World} (hs : ∀ x ∈ ks, ∃ p F, x.2 = .letter p F) (hb : Below wr.heap.size w w') (hl : ∀ x ∈ ks, x.1 ≠ i → dep ops x.1 i = false → ∀ p F, x.2 = .letter p F → ∀ v, F v w → F v w') : MildK ks ops i wr w w' :=
  ⟨fun h => ⟨hb.os.trans h.os, hb.tape.trans h.tape, hb.output.trans h.output, Nat.le_trans h.size hb.size, fun k hk hS => (hb.block k hk).trans (h.block k hk hS)⟩,
   fun j b T old new hj => (by obtain ⟨p, F, e⟩ := hs _ (kind_mem hj (by simp)); cases e),
   fun j s T z n hj => (by obtain ⟨p, F, e⟩ := hs _ (kind_mem hj (by simp)); cases e),
   fun j f p F hj hji hd v => (by
     obtain ⟨q, G, e⟩ := hs _ (kind_mem hj (by simp))
     injection e with e1 e2 e3
     subst e1
     exact hl _ (kind_mem hj (by simp)) hji hd p F rfl v), hb.size,
   fun j b p F hj => (by obtain ⟨q, G, e⟩ := hs _ (kind_mem hj (by simp)); cases e),
   fun j b hj => (by obtain ⟨q, G, e⟩ := hs _ (kind_mem hj (by simp)); cases e)⟩
/-- Bytes of a string, as a conversion makes them: their block bears a mark. -/
def StrF (B : Nat) (n : Nat) (xs : List Value) (u : Value) (W : World) : Prop := ∃ g cap cur fz, u = .slice (some ⟨g, 0, none⟩) n cap ∧ B ≤ g ∧ fz ≠ (0, 0) ∧ W.heap[g]? = some (.cells cur 5 fz) ∧ cur.toList.take n = xs
theorem str_stab (ks : Kinds) (wr : World) (n : Nat) (xs : List Value) (h : boxes ks = []) : ∀ v w w', Kept ks wr w w' → StrF wr.heap.size n xs v w → StrF wr.heap.size n xs v w' := by
  rintro v w w' hk ⟨g, cap, cur, fz, e, hb, hf, hg, ht⟩
  have hlt : g < w.heap.size := by
    rcases Nat.lt_or_ge g w.heap.size with h | h
    · exact h
    · rw [Array.getElem?_eq_none h] at hg; cases hg
  exact ⟨g, cap, cur, fz, e, hb, hf, (hk.block g hlt hb (fun cs T fr _ => by rw [h]; simp)).trans hg, ht⟩
theorem str_cell {B n : Nat} {xs : List Value} {g cap : Nat} {W : World} (h : StrF B n xs (.slice (some ⟨g, 0, none⟩) n cap) W) : ∀ j u, xs[j]? = some u → W.cell? ((⟨g, 0, none⟩ : Addr).add j) = some u := by
  obtain ⟨g', cap', cur, fz, e, _, _, hg, ht⟩ := h
  simp only [Value.slice.injEq, Option.some.injEq, Addr.mk.injEq, and_true, true_and] at e
  obtain ⟨rfl, rfl⟩ := e
  intro j u hu
  have ha : (⟨g, 0, none⟩ : Addr).add j = ⟨g, j, none⟩ := by unfold Addr.add; split <;> simp_all
  rw [ha, cell_of_row W g j cur 5 fz hg, ← hu, ← ht, List.getElem?_take]
  have hj : j < n := by
    have := (List.getElem?_eq_some_iff.1 hu).1
    rw [← ht, List.length_take] at this; omega
  rw [if_pos hj]
  simp
/-- A conversion of a text makes them. -/
theorem str_made (B : Nat) (s : ByteArray) (w : World) (hB : B ≤ w.heap.size) : ∃ u w', (convert 9 63 (.string s)).run Tryz.prog w = .ok u w' ∧ (∃ g cap, u = .slice (some ⟨g, 0, none⟩) s.size cap) ∧ StrF B s.size (Lib.strCells s) u w' ∧ Below w.heap.size w w' := by
  refine ⟨_, _, Lib.run_convert_string_bytes w 9 63 5 s Tryz.underlying9 Tryz.underlying63 Tryz.underlying5, ⟨_, _, rfl⟩, ⟨w.heap.size, _, _, _, rfl, hB, ?_, Lib.bytesWorld_at_new w _ s, ?_⟩, ?_⟩
  · intro e; injection e with _ e; omega
  · unfold Lib.bytesCells Lib.strCells
    simp only [Array.toList_append, Array.toList_map]
    rw [List.take_append_of_le_length (by simp)]
    rw [List.take_of_length_le (by simp)]
  · exact ⟨rfl, rfl, rfl, by rw [Lib.bytesWorld_size]; omega, fun k hk => Lib.bytesWorld_at_old w _ s k hk⟩
end Go.Proofs.YtfnamfkjbkhgeaaGreatDoor

namespace Go.Proofs.YtfnamfkjbkhgeaaGreatDoor

open Go Go.RowKit

def StrP (n : Nat) (u : Value) : Prop := ∃ g cap, u = .slice (some ⟨g, 0, none⟩) n cap
theorem own_slice {w : World} {B n : Nat} {T : TypeId} {v : Value} {xs : List Value} (h : w.ownsRow B T 1 v n xs) (hn : 0 < n) : ∃ g cap, v = .slice (some ⟨g, 0, none⟩) n cap := by
  rcases h.2 with ⟨_, h0⟩ | ⟨g, cap, cur, e, _⟩
  · omega
  · exact ⟨g, cap, e⟩
theorem exec_convert {P : Program} {o : Oper} {a : Act} (x : Operand) (t u : TypeId) (ho : o.op = .convert t u x) {y v : Value} {w w' : World} (hx : a.eval x = y) (hr : (convert t u y).run P w = .ok v w') : (execOp a.eval o).run P w = .ok (.value v) w' := by
  unfold execOp
  simp only [ho, Sem.run_bind, Sem.run_pure, hx, hr, Result.andThen_ok]
theorem strCells_one (s : ByteArray) : ∀ u ∈ Lib.strCells s, u.oneCell' = true := by
  intro u hu
  unfold Lib.strCells at hu
  obtain ⟨b, _, rfl⟩ := List.mem_map.1 hu
  rfl

end Go.Proofs.YtfnamfkjbkhgeaaGreatDoor

namespace Go.Proofs.YtfnamfkjbkhgeaaGreatDoor

open Go Go.RowKit

theorem str_world (W : World) (s : ByteArray) : Below W.heap.size W (Lib.bytesWorld W 5 s) ∧ RByt (Lib.bytesWorld W 5 s) (some ⟨W.heap.size, 0, none⟩) (natL s.data.toList) := by
  obtain ⟨u, w', hr, _, hF, hb⟩ := str_made W.heap.size s W (Nat.le_refl _)
  rw [Lib.run_convert_string_bytes W 9 63 5 s Tryz.underlying9 Tryz.underlying63 Tryz.underlying5] at hr
  injection hr with e1 e2
  subst e1 e2
  refine ⟨hb, by simp, fun hn => ⟨⟨W.heap.size, 0, none⟩, rfl, by rw [Lib.bytesWorld_size]; simp, fun j u hu => ?_⟩⟩
  refine str_cell hF j u ?_
  rw [strCells_nat]
  exact hu





theorem str_reads (W : World) (s : ByteArray) : Reads (Lib.bytesWorld W 5 s) (Lib.bytesWorld W 5 s).heap.size 1 (some ⟨W.heap.size, 0, none⟩) s.size ((natL s.data.toList).map fun (n : Nat) => Value.int .u8 (n : Int)) := by
  have h := (str_world W s).2
  unfold RByt at h
  rw [natL_len, dlen] at h
  exact h
theorem lit_reads (W : World) (n : Nat) : RByt (W.alloc (.cells #[.int .u8 (n : Int)] 5)) (some ⟨W.heap.size, 0, none⟩) [n] := Reads.of_own (World.ownsRow_lit (e := 5) (size := 1) W #[.int .u8 (n : Int)] 1 (Nat.le_refl _) (by unfold maxLen; omega) rfl)


end Go.Proofs.YtfnamfkjbkhgeaaGreatDoor

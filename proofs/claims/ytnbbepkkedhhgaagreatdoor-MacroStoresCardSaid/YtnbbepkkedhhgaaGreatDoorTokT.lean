/-
  Tokens: unlike tokens that can be have unlike bytes. Plain facts.
-/
import Derived.Test.YtnbbepkkedhhgaaGreatDoorTokR
namespace Go.Proofs.YtnbbepkkedhhgaaGreatDoor

open Go Go.RowKit

theorem lead_inj {c d : Nat} {e : Bool} {r r' : List Nat} (h : leadL c e ++ r = leadL d e ++ r') : c = d ∧ r = r' := by
  unfold leadL at h
  by_cases h1 : e = true ∧ 64 ≤ c ∧ c ≤ 95
  · by_cases h2 : e = true ∧ 64 ≤ d ∧ d ≤ 95
    · rw [if_pos h1, if_pos h2] at h
      simp only [List.cons_append, List.nil_append, List.cons.injEq] at h
      exact ⟨by omega, h.2⟩
    · rw [if_pos h1, if_neg h2] at h
      simp only [List.cons_append, List.nil_append, List.cons.injEq] at h
      omega
  · by_cases h2 : e = true ∧ 64 ≤ d ∧ d ≤ 95
    · rw [if_neg h1, if_pos h2] at h
      simp only [List.cons_append, List.nil_append, List.cons.injEq] at h
      omega
    · rw [if_neg h1, if_neg h2] at h
      simp only [List.cons_append, List.nil_append, List.cons.injEq] at h
      exact ⟨h.2.1, h.2.2⟩
theorem lead_one {c x : Nat} {e : Bool} {r : List Nat} (hc : c ≠ 27) (h8 : c < 128 ∨ 160 ≤ c) (h : [c] = leadL x e ++ r) : False := by
  unfold leadL at h
  by_cases h1 : e = true ∧ 64 ≤ x ∧ x ≤ 95
  · rw [if_pos h1] at h
    simp only [List.cons_append, List.nil_append, List.cons.injEq] at h
    omega
  · rw [if_neg h1] at h
    simp only [List.cons_append, List.nil_append, List.cons.injEq] at h
    exact hc h.1
theorem split_at (p : Nat → Prop) : ∀ (a b r r' : List Nat), (∀ x ∈ a, p x) → (∀ x ∈ b, p x) → (∀ x t, r = x :: t → ¬ p x) → (∀ x t, r' = x :: t → ¬ p x) → a ++ r = b ++ r' → a = b ∧ r = r'
  | [], [], _, _, _, _, _, _, h => ⟨rfl, h⟩
  | x :: a, [], r, _, ha, _, _, hr', h => absurd (ha x (by simp)) (hr' x (a ++ r) (by simpa using h.symm))
  | [], y :: b, _, r', _, hb, hr, _, h => absurd (hb y (by simp)) (hr y (b ++ r') (by simpa using h))
  | x :: a, y :: b, r, r', ha, hb, hr, hr', h => by
    simp only [List.cons_append, List.cons.injEq] at h
    obtain ⟨rfl, h⟩ := h
    obtain ⟨rfl, e⟩ := split_at p a b r r' (fun z hz => ha z (by simp [hz])) (fun z hz => hb z (by simp [hz])) hr hr' h
    exact ⟨rfl, e⟩
theorem head_of {a b : List Nat} {x : Nat} {t : List Nat} (h : a ++ b = x :: t) : x ∈ a ∨ ∃ t', b = x :: t' := by
  cases a with
  | nil => exact .inr ⟨t, by simpa using h⟩
  | cons y a => simp only [List.cons_append, List.cons.injEq] at h; exact .inl (by rw [h.1]; simp)
theorem fmt_dig (ps : List Int) : ∀ n ∈ natL (fmtL ps), 48 ≤ n ∧ n ≤ 59 := by
  intro n hn
  obtain ⟨b, hb, rfl⟩ := List.mem_map.1 hn
  have := (fmt_back ps).1 b hb
  unfold okb at this
  simp only [Bool.or_eq_true, beq_iff_eq, Bool.and_eq_true, decide_eq_true_eq, UInt8.le_iff_toNat_le] at this
  rcases this with rfl | ⟨h1, h2⟩
  · exact ⟨by decide, by decide⟩
  · exact ⟨h1, by have : b.toNat ≤ 57 := h2; omega⟩
theorem in_range {ps : List Int} (h : ps.any outB = false) : ps.map clip65 = ps := by
  induction ps with
  | nil => rfl
  | cons x l ih =>
    rw [List.any_cons, Bool.or_eq_false_iff] at h
    rw [List.map_cons, ih h.2]
    have : x = clip65 x := by
      have := h.1
      unfold outB at this
      show x = clipP x 0 65535
      simpa using this
    rw [← this]
theorem fmt_inj {ps ps2 : List Int} (h1 : ps.length ≤ 30) (h2 : ps2.length ≤ 30) (o1 : ps.any outB = false) (o2 : ps2.any outB = false) (h : natL (fmtL ps) = natL (fmtL ps2)) : ps = ps2 := by
  have e := congrArg numsOf (natL_inj h)
  rw [(fmt_back ps).2, (fmt_back ps2).2, List.take_of_length_le h1, List.take_of_length_le h2, in_range o1, in_range o2] at e
  exact e
/-- What a token's parts may be, where they stand behind one another. -/
structure PartsOk (c m : Nat) (ps : List Int) (s : ByteArray) : Prop where
  code : 64 ≤ c ∧ c ≤ 126
  mark : m = 0 ∨ (60 ≤ m ∧ m ≤ 63)
  len : ps.length ≤ 30
  rng : ps.any outB = false
  int : ∀ n ∈ natL s.data.toList, 32 ≤ n ∧ n ≤ 47
theorem signs_inj {c m : Nat} {ps : List Int} {s : ByteArray} {c2 m2 : Nat} {ps2 : List Int} {s2 : ByteArray} {r r' : List Nat} (h1 : PartsOk c m ps s) (h2 : PartsOk c2 m2 ps2 s2) (h : signsL c m ps s ++ r = signsL c2 m2 ps2 s2 ++ r') :
    c = c2 ∧ m = m2 ∧ ps = ps2 ∧ s = s2 ∧ r = r' := by
  unfold signsL at h
  simp only [List.append_assoc, List.cons_append, List.nil_append] at h
  have hm : ∀ {m : Nat}, (m = 0 ∨ (60 ≤ m ∧ m ≤ 63)) → ∀ x ∈ (if m = 0 then ([] : List Nat) else [m]), 60 ≤ x ∧ x ≤ 63 := by
    intro m hm x hx
    split at hx
    · cases hx
    · simp only [List.mem_singleton] at hx; omega
  have hd : ∀ {c m : Nat} {ps : List Int} {s : ByteArray} {r : List Nat}, PartsOk c m ps s → ∀ x t, natL (fmtL ps) ++ (natL s.data.toList ++ c :: r) = x :: t → ¬ (60 ≤ x ∧ x ≤ 63) := by
    intro c m ps s r hp x t hx
    rcases head_of hx with hx | ⟨t', hx⟩
    · have := fmt_dig ps x hx; omega
    · rcases head_of hx with hx | ⟨t', hx⟩
      · have := hp.int x hx; omega
      · simp only [List.cons.injEq] at hx; have := hp.code; omega
  have hd2 : ∀ {c m : Nat} {ps : List Int} {s : ByteArray} {r : List Nat}, PartsOk c m ps s → ∀ x t, natL s.data.toList ++ c :: r = x :: t → ¬ (48 ≤ x ∧ x ≤ 59) := by
    intro c m ps s r hp x t hx
    rcases head_of hx with hx | ⟨t', hx⟩
    · have := hp.int x hx; omega
    · simp only [List.cons.injEq] at hx; have := hp.code; omega
  have hd3 : ∀ {c m : Nat} {ps : List Int} {s : ByteArray} {r : List Nat}, PartsOk c m ps s → ∀ x t, c :: r = x :: t → ¬ (32 ≤ x ∧ x ≤ 47) := by
    intro c m ps s r hp x t hx
    simp only [List.cons.injEq] at hx; have := hp.code; omega
  obtain ⟨e1, h⟩ := split_at (fun x => 60 ≤ x ∧ x ≤ 63) _ _ _ _ (hm h1.mark) (hm h2.mark) (hd h1) (hd h2) h
  obtain ⟨e2, h⟩ := split_at (fun x => 48 ≤ x ∧ x ≤ 59) _ _ _ _ (fmt_dig ps) (fmt_dig ps2) (hd2 h1) (hd2 h2) h
  obtain ⟨e3, h⟩ := split_at (fun x => 32 ≤ x ∧ x ≤ 47) _ _ _ _ h1.int h2.int (hd3 h1) (hd3 h2) h
  simp only [List.cons.injEq] at h
  refine ⟨h.1, ?_, fmt_inj h1.len h2.len h1.rng h2.rng e2, ByteArray.ext (Array.ext' (natL_inj e3)), h.2⟩
  split at e1 <;> split at e1 <;> simp at e1 <;> omega
/-- What is known of a token that can be, kind by kind. -/
def TkV (k : Int) (c m : Nat) (ps : List Int) (s : ByteArray) (dt : List Nat) : Prop :=
  ((k = 1 ∨ k = 2) ∧ c ≠ 27 ∧ (c < 128 ∨ 160 ≤ c) ∧ (k = 2 ↔ c < 32) ∧ m = 0 ∧ ps = [] ∧ s.data.toList = [] ∧ dt = []) ∨
  (k = 3 ∧ 48 ≤ c ∧ c ≤ 126 ∧ (s.data.toList = [] → leadsB c = false) ∧ (∀ n ∈ natL s.data.toList, 32 ≤ n ∧ n ≤ 47) ∧ m = 0 ∧ ps = [] ∧ dt = []) ∨
  (k = 4 ∧ PartsOk c m ps s ∧ dt = []) ∨ (k = 5 ∧ PartsOk c m ps s) ∨ (6 ≤ k ∧ k ≤ 9 ∧ c = 0 ∧ m = 0 ∧ ps = [] ∧ s.data.toList = [])
theorem inter_all {s : ByteArray} (h : s.data.toList.all interB = true) : ∀ n ∈ natL s.data.toList, 32 ≤ n ∧ n ≤ 47 := by
  intro n hn
  obtain ⟨b, hb, rfl⟩ := List.mem_map.1 hn
  have := List.all_eq_true.1 h b hb
  unfold interB amongB at this
  simpa using this
theorem tk_valid {k : Int} {c m : Nat} {ps : List Int} {s : ByteArray} {dt : List Nat} (h : checkP k c m ps s dt = 0) : TkV k c m ps s dt := by
  obtain ⟨z1, z9, z3, z4, _, z6, hp, hc, hw⟩ := check_zero h
  unfold writtenB at hw
  simp only [Bool.and_eq_true, Bool.or_eq_true, beq_iff_eq] at hw
  have hi := inter_all hw.2.1
  have hm : m = 0 ∨ (60 ≤ m ∧ m ≤ 63) := by
    rcases hw.1 with h | h
    · exact .inl h
    · unfold amongB at h; right; simpa using h
  have h9 : k = 1 ∨ k = 2 ∨ k = 3 ∨ k = 4 ∨ k = 5 ∨ 6 ≤ k := by omega
  have nl : ∀ {s : ByteArray}, s.size = 0 → s.data.toList = [] := fun {s} h => List.length_eq_zero_iff.1 (by rw [dlen]; exact h)
  unfold TkV
  rcases h9 with rfl | rfl | rfl | rfl | rfl | h6
  · have hp2 : sameQ 1 0 m ps s dt 1 0 0 [] (ByteArray.mk #[]) [] = true := hp
    rw [same_zero] at hp2
    have hc2 : (amongB c 32 126 || decide (160 ≤ c)) = true := hc
    unfold amongB at hc2
    simp only [Bool.and_eq_true, Bool.or_eq_true, decide_eq_true_eq, beq_iff_eq] at hp2 hc2
    exact .inl ⟨.inl rfl, by omega, by omega, by omega, by omega, List.length_eq_zero_iff.1 hp2.2.2.2.1, nl hp2.2.2.1, List.length_eq_zero_iff.1 hp2.2.2.2.2⟩
  · have hp2 : sameQ 2 0 m ps s dt 2 0 0 [] (ByteArray.mk #[]) [] = true := hp
    rw [same_zero] at hp2
    have hc2 : (amongB c 1 31 && ((c != 24) && (c != 27))) = true := hc
    unfold amongB at hc2
    simp only [Bool.and_eq_true, decide_eq_true_eq, beq_iff_eq, bne_iff_ne] at hp2 hc2
    exact .inl ⟨.inr rfl, hc2.2.2, by omega, by omega, by omega, List.length_eq_zero_iff.1 hp2.2.2.2.1, nl hp2.2.2.1, List.length_eq_zero_iff.1 hp2.2.2.2.2⟩
  · have hp2 : sameQ 3 0 m ps (ByteArray.mk #[]) dt 3 0 0 [] (ByteArray.mk #[]) [] = true := hp
    rw [same_zero] at hp2
    have hc2 : (amongB c 48 126 && (!decide (s.size = 0) || !leadsB c)) = true := hc
    unfold amongB at hc2
    simp only [Bool.and_eq_true, Bool.or_eq_true, decide_eq_true_eq, beq_iff_eq, Bool.not_eq_true', decide_eq_false_iff_not] at hp2 hc2
    refine .inr (.inl ⟨rfl, hc2.1.1, hc2.1.2, fun hs => ?_, hi, by omega, List.length_eq_zero_iff.1 hp2.2.2.2.1, List.length_eq_zero_iff.1 hp2.2.2.2.2⟩)
    rcases hc2.2 with h | h
    · exact absurd (by rw [← dlen, hs]; rfl) h
    · exact h
  · have hp2 : sameQ 4 0 0 [] (ByteArray.mk #[]) dt 4 0 0 [] (ByteArray.mk #[]) [] = true := hp
    rw [same_zero] at hp2
    have hc2 : amongB c 64 126 = true := hc
    unfold amongB at hc2
    simp only [Bool.and_eq_true, decide_eq_true_eq, beq_iff_eq] at hp2 hc2
    exact .inr (.inr (.inl ⟨rfl, ⟨hc2, hm, z4, z6, hi⟩, List.length_eq_zero_iff.1 hp2.2.2.2.2⟩))
  · have hc2 : amongB c 64 126 = true := hc
    unfold amongB at hc2
    simp only [Bool.and_eq_true, decide_eq_true_eq] at hc2
    exact .inr (.inr (.inr (.inl ⟨rfl, ⟨hc2, hm, z4, z6, hi⟩⟩)))
  · have hp2 : sameQ k c m ps s [] k 0 0 [] (ByteArray.mk #[]) [] = true := by
      unfold pureB at hp
      rwa [if_neg (by omega), if_neg (by omega), if_neg (by omega), if_neg (by omega)] at hp
    rw [same_zero] at hp2
    simp only [Bool.and_eq_true, decide_eq_true_eq, beq_iff_eq] at hp2
    exact .inr (.inr (.inr (.inr ⟨h6, z9, by omega, by omega, List.length_eq_zero_iff.1 hp2.2.2.2.1, nl hp2.2.2.1⟩)))
/-- How the bytes of a token begin. -/
theorem bytes_form {k : Int} {c m : Nat} {ps : List Int} {s : ByteArray} {dt : List Nat} (e : Bool) (h : TkV k c m ps s dt) :
    ((k = 1 ∨ k = 2) ∧ bytesL k c m ps s dt e = [c]) ∨
    (k = 3 ∧ s.data.toList = [] ∧ bytesL k c m ps s dt e = leadL c e ++ []) ∨
    (k = 3 ∧ ∃ b t, natL s.data.toList = b :: t ∧ 32 ≤ b ∧ b ≤ 47 ∧ bytesL k c m ps s dt e = leadL b e ++ (t ++ [c])) ∨
    (4 ≤ k ∧ k ≤ 9 ∧ bytesL k c m ps s dt e = leadL (begN k) e ++ ((if k = 4 ∨ k = 5 then signsL c m ps s else []) ++ (if k = 4 then [] else dt ++ leadL 92 e))) := by
  rcases h with ⟨hk, _⟩ | ⟨rfl, _, _, _, hi, rfl, rfl, rfl⟩ | ⟨rfl, _⟩ | ⟨rfl, _⟩ | ⟨h6, h9, _⟩
  · exact .inl ⟨hk, if_pos hk⟩
  · have eb : bytesL 3 c 0 [] s [] e = escL c 0 [] s e := rfl
    rw [eb]
    unfold escL
    cases hs : natL s.data.toList with
    | nil =>
      have h0 : s.data.toList = [] := List.map_eq_nil_iff.1 hs
      refine .inr (.inl ⟨rfl, h0, ?_⟩)
      rw [if_pos (by rw [← dlen, h0]; rfl), List.append_nil]
    | cons b t =>
      have hb := hi b (by rw [hs]; simp)
      refine .inr (.inr (.inl ⟨rfl, b, t, rfl, hb.1, hb.2, ?_⟩))
      rw [if_neg (by rw [← dlen, ← natL_len, hs]; simp)]
      unfold signsL leadL
      rw [fmt_none, if_pos rfl, if_neg (by omega), hs]
      rfl
  · exact .inr (.inr (.inr ⟨by omega, by omega, by show leadL 91 e ++ signsL c m ps s ++ [] = _; rw [List.append_assoc]; rfl⟩))
  · exact .inr (.inr (.inr ⟨by omega, by omega, by show leadL 80 e ++ signsL c m ps s ++ (dt ++ leadL 92 e) = _; rw [List.append_assoc]; rfl⟩))
  · refine .inr (.inr (.inr ⟨by omega, by omega, ?_⟩))
    unfold bytesL
    rw [if_neg (by omega), if_neg (by omega), List.append_assoc]
theorem beg_inj {k k2 : Int} (h : 4 ≤ k ∧ k ≤ 9) (h2 : 4 ≤ k2 ∧ k2 ≤ 9) (e : begN k = begN k2) : k = k2 := by
  have a : k = 4 ∨ k = 5 ∨ k = 6 ∨ k = 7 ∨ k = 8 ∨ k = 9 := by omega
  have b : k2 = 4 ∨ k2 = 5 ∨ k2 = 6 ∨ k2 = 7 ∨ k2 = 8 ∨ k2 = 9 := by omega
  rcases a with rfl | rfl | rfl | rfl | rfl | rfl <;> rcases b with rfl | rfl | rfl | rfl | rfl | rfl <;> first | rfl | (exact absurd e (by decide))
theorem beg_leads {k : Int} (h : 4 ≤ k ∧ k ≤ 9) : leadsB (begN k) = true ∧ 80 ≤ begN k := by
  have a : k = 4 ∨ k = 5 ∨ k = 6 ∨ k = 7 ∨ k = 8 ∨ k = 9 := by omega
  rcases a with rfl | rfl | rfl | rfl | rfl | rfl <;> exact ⟨by decide, by decide⟩
theorem bytes_inj {k : Int} {c m : Nat} {ps : List Int} {s : ByteArray} {dt : List Nat} {k2 : Int} {c2 m2 : Nat} {ps2 : List Int} {s2 : ByteArray} {dt2 : List Nat} (e : Bool) (h : TkV k c m ps s dt) (h2 : TkV k2 c2 m2 ps2 s2 dt2)
    (he : bytesL k c m ps s dt e = bytesL k2 c2 m2 ps2 s2 dt2 e) : k = k2 ∧ c = c2 ∧ m = m2 ∧ ps = ps2 ∧ s = s2 ∧ dt = dt2 := by
  have nil2 : ∀ {s s2 : ByteArray}, s.data.toList = [] → s2.data.toList = [] → s = s2 := fun {s s2} a b => ByteArray.ext (Array.ext' (a.trans b.symm))
  rcases bytes_form e h with ⟨hk, f⟩ | ⟨hk, hs, f⟩ | ⟨hk, b, t, hs, hb1, hb2, f⟩ | ⟨hk, hk', f⟩ <;>
    rcases bytes_form e h2 with ⟨gk, g⟩ | ⟨gk, gs, g⟩ | ⟨gk, b', t', gs, gb1, gb2, g⟩ | ⟨gk, gk', g⟩ <;> rw [f, g] at he
  · rcases h with ⟨_, _, _, q, rfl, rfl, qs, rfl⟩ | h | h | h | h
    · rcases h2 with ⟨_, _, _, q2, rfl, rfl, qs2, rfl⟩ | h2 | h2 | h2 | h2
      · have hc : c = c2 := by simpa using he
        subst hc
        exact ⟨by omega, rfl, rfl, rfl, nil2 qs qs2, rfl⟩
      all_goals (exfalso; have := h2.1; omega)
    all_goals (exfalso; have := h.1; omega)
  · exfalso
    rcases h with ⟨_, q1, q2, _⟩ | h | h | h | h
    · exact lead_one q1 q2 he
    all_goals (have := h.1; omega)
  · exfalso
    rcases h with ⟨_, q1, q2, _⟩ | h | h | h | h
    · exact lead_one q1 q2 he
    all_goals (have := h.1; omega)
  · exfalso
    rcases h with ⟨_, q1, q2, _⟩ | h | h | h | h
    · exact lead_one q1 q2 he
    all_goals (have := h.1; omega)
  · exfalso
    rcases h2 with ⟨_, q1, q2, _⟩ | h2 | h2 | h2 | h2
    · exact lead_one q1 q2 he.symm
    all_goals (have := h2.1; omega)
  · subst hk gk
    rcases h with h | ⟨_, _, _, _, _, rfl, rfl, rfl⟩ | h | h | h
    · exfalso; have := h.1; omega
    · rcases h2 with h2 | ⟨_, _, _, _, _, rfl, rfl, rfl⟩ | h2 | h2 | h2
      · exfalso; have := h2.1; omega
      · exact ⟨rfl, (lead_inj he).1, rfl, rfl, nil2 hs gs, rfl⟩
      all_goals (exfalso; have := h2.1; omega)
    all_goals (exfalso; have := h.1; omega)
  · exfalso
    have := (lead_inj he).1
    rcases h with h | ⟨_, _, _, _, _, rfl, rfl, rfl⟩ | h | h | h
    · have := h.1; omega
    · omega
    all_goals (have := h.1; omega)
  · exfalso
    have e1 := (lead_inj he).1
    have e2 := (beg_leads ⟨gk, gk'⟩).1
    rcases h with h | ⟨_, _, _, q, _, rfl, rfl, rfl⟩ | h | h | h
    · have := h.1; omega
    · rw [← e1, q hs] at e2; cases e2
    all_goals (have := h.1; omega)
  · exfalso
    rcases h2 with ⟨_, q1, q2, _⟩ | h2 | h2 | h2 | h2
    · exact lead_one q1 q2 he.symm
    all_goals (have := h2.1; omega)
  · exfalso
    have := (lead_inj he).1
    rcases h2 with h2 | ⟨_, _, _, _, _, rfl, rfl, rfl⟩ | h2 | h2 | h2
    · have := h2.1; omega
    · omega
    all_goals (have := h2.1; omega)
  · subst hk gk
    obtain ⟨e1, e2⟩ := lead_inj he
    obtain ⟨e3, e4⟩ := List.append_inj' e2 rfl
    rcases h with h | ⟨_, _, _, _, _, rfl, rfl, rfl⟩ | h | h | h
    · exfalso; have := h.1; omega
    · rcases h2 with h2 | ⟨_, _, _, _, _, rfl, rfl, rfl⟩ | h2 | h2 | h2
      · exfalso; have := h2.1; omega
      · exact ⟨rfl, by simpa using e4, rfl, rfl, ByteArray.ext (Array.ext' (natL_inj (by rw [hs, gs, e1, e3]))), rfl⟩
      all_goals (exfalso; have := h2.1; omega)
    all_goals (exfalso; have := h.1; omega)
  · exfalso
    have e1 := (lead_inj he).1
    have := (beg_leads ⟨gk, gk'⟩).2
    omega
  · exfalso
    rcases h2 with ⟨_, q1, q2, _⟩ | h2 | h2 | h2 | h2
    · exact lead_one q1 q2 he.symm
    all_goals (have := h2.1; omega)
  · exfalso
    have e1 := (lead_inj he).1
    have e2 := (beg_leads ⟨hk, hk'⟩).1
    rcases h2 with h2 | ⟨_, _, _, q, _, rfl, rfl, rfl⟩ | h2 | h2 | h2
    · have := h2.1; omega
    · rw [e1, q gs] at e2; cases e2
    all_goals (have := h2.1; omega)
  · exfalso
    have e1 := (lead_inj he).1
    have := (beg_leads ⟨hk, hk'⟩).2
    omega
  · obtain ⟨e1, e2⟩ := lead_inj he
    obtain rfl := beg_inj ⟨hk, hk'⟩ ⟨gk, gk'⟩ e1
    clear f g he e1
    rcases h with h | h | ⟨rfl, p1, rfl⟩ | ⟨rfl, p1⟩ | ⟨h6, h9, rfl, rfl, rfl, qs⟩
    · exfalso; have := h.1; omega
    · exfalso; have := h.1; omega
    · rcases h2 with h2 | h2 | ⟨_, p2, rfl⟩ | h2 | h2
      · exfalso; have := h2.1; omega
      · exfalso; have := h2.1; omega
      · obtain ⟨rfl, rfl, rfl, rfl, _⟩ := signs_inj p1 p2 e2
        exact ⟨rfl, rfl, rfl, rfl, rfl, rfl⟩
      all_goals (exfalso; have := h2.1; omega)
    · rcases h2 with h2 | h2 | h2 | ⟨_, p2⟩ | h2
      · exfalso; have := h2.1; omega
      · exfalso; have := h2.1; omega
      · exfalso; have := h2.1; omega
      · obtain ⟨rfl, rfl, rfl, rfl, e3⟩ := signs_inj p1 p2 e2
        exact ⟨rfl, rfl, rfl, rfl, rfl, List.append_cancel_right e3⟩
      · exfalso; have := h2.1; omega
    · rcases h2 with h2 | h2 | h2 | h2 | ⟨_, _, rfl, rfl, rfl, qs2⟩
      · exfalso; have := h2.1; omega
      · exfalso; have := h2.1; omega
      · exfalso; have := h2.1; omega
      · exfalso; have := h2.1; omega
      · have h45 : ¬ (k = 4 ∨ k = 5) := by omega
        have h4 : ¬ k = 4 := by omega
        simp only [if_neg h45, if_neg h4, List.nil_append] at e2
        exact ⟨rfl, rfl, rfl, rfl, nil2 qs qs2, List.append_cancel_right e2⟩
theorem lead_lt (c : Nat) (hc : c < 192) (e : Bool) : ∀ n ∈ leadL c e, n < 256 := by
  intro n hn
  unfold leadL at hn
  split at hn
  · simp only [List.mem_singleton] at hn; omega
  · simp only [List.mem_cons, List.not_mem_nil, or_false] at hn; omega
theorem natL_lt (l : List UInt8) : ∀ n ∈ natL l, n < 256 := by
  intro n hn
  obtain ⟨b, _, rfl⟩ := List.mem_map.1 hn
  exact b.toNat_lt
theorem bytes_lt {k : Int} {c m : Nat} {ps : List Int} {s : ByteArray} {dt : List Nat} (e : Bool) (hc : c < 256) (hm : m < 256) (hd : ∀ n ∈ dt, n < 256) (h : TkV k c m ps s dt) : ∀ n ∈ bytesL k c m ps s dt e, n < 256 := by
  have hs : ∀ n ∈ signsL c m ps s, n < 256 := by
    intro n hn
    unfold signsL at hn
    simp only [List.mem_append, List.mem_singleton] at hn
    rcases hn with ((hn | hn) | hn) | hn
    · split at hn
      · cases hn
      · simp only [List.mem_singleton] at hn; omega
    · exact natL_lt _ n hn
    · exact natL_lt _ n hn
    · omega
  have hb : begN k < 192 := by unfold begN; (repeat' split) <;> omega
  intro n hn
  rcases bytes_form e h with ⟨hk, f⟩ | ⟨hk, hs0, f⟩ | ⟨hk, b, t, hs0, hb1, hb2, f⟩ | ⟨hk, hk', f⟩ <;> rw [f] at hn
  · simp only [List.mem_singleton] at hn; omega
  · rw [List.append_nil] at hn
    refine lead_lt c ?_ e n hn
    rcases h with h | h | h | h | h
    · have := h.1; omega
    · have := h.2.2.1; omega
    · have := h.1; omega
    · have := h.1; omega
    · have := h.1; omega
  · simp only [List.mem_append, List.mem_singleton] at hn
    rcases hn with hn | hn | hn
    · exact lead_lt b (by omega) e n hn
    · exact natL_lt s.data.toList n (by rw [hs0]; simp [hn])
    · omega
  · simp only [List.mem_append] at hn
    rcases hn with hn | hn | hn
    · exact lead_lt _ hb e n hn
    · split at hn
      · exact hs n hn
      · cases hn
    · split at hn
      · cases hn
      · rcases List.mem_append.1 hn with hn | hn
        · exact hd n hn
        · exact lead_lt 92 (by omega) e n hn
theorem same_self (k c m : Int) (ps : List Int) (s : ByteArray) (dt : List Nat) : sameQ k c m ps s dt k c m ps s dt = true := by
  unfold sameQ; simp
/-- Of tokens that can be: just equal bytes, just the same. -/
theorem unlike {k : Int} {c m : Nat} {ps : List Int} {s : ByteArray} {dt : List Nat} {k2 : Int} {c2 m2 : Nat} {ps2 : List Int} {s2 : ByteArray} {dt2 : List Nat} (e : Bool) (hc : c < 256) (hm : m < 256) (hd : ∀ n ∈ dt, n < 256) (hc2 : c2 < 256) (hm2 : m2 < 256) (hd2 : ∀ n ∈ dt2, n < 256)
    (h : checkP k c m ps s dt = 0) (h2 : checkP k2 c2 m2 ps2 s2 dt2 = 0) :
    ((bstr (bytesL k c m ps s dt e)).toList == (bstr (bytesL k2 c2 m2 ps2 s2 dt2 e)).toList) = sameQ k c m ps s dt k2 c2 m2 ps2 s2 dt2 := by
  rw [str_eq, Bool.eq_iff_iff, decide_eq_true_eq]
  constructor
  · intro he
    obtain ⟨rfl, rfl, rfl, rfl, rfl, rfl⟩ := bytes_inj e (tk_valid h) (tk_valid h2) (bstr_inj (bytes_lt e hc hm hd (tk_valid h)) (bytes_lt e hc2 hm2 hd2 (tk_valid h2)) he)
    exact same_self _ _ _ _ _ _
  · intro hs
    unfold sameQ at hs
    simp only [Bool.and_eq_true, beq_iff_eq, decide_eq_true_eq] at hs
    obtain ⟨rfl, h1, h3, h4, rfl, h6⟩ := hs
    obtain rfl : c = c2 := by omega
    obtain rfl : m = m2 := by omega
    obtain rfl : s = s2 := by
      rw [ByteArray.toList_eq, ByteArray.toList_eq] at h4
      exact ByteArray.ext (Array.ext' h4)
    obtain rfl := bstr_inj hd hd2 h6
    rfl
end Go.Proofs.YtnbbepkkedhhgaaGreatDoor

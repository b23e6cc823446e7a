/-
  Tokens: the fixed fact; one told as the document's.
  Tokens: the id and the numbers of a sequence are all that there is to it. Plain facts.
  Tokens: unlike tokens that can be have unlike bytes. Plain facts.
  Tokens of the program's own, as letters, of any kind.
  Tokens, the document's own answers: an escape and a byte; what kind of function it is.
  A slice of one's own that is grown within a region that draws its order: what it was is as it was, and so is each other one.
  Tokens, the document's own answers: the bytes of an Esc with Inters.
  Tokens, the document's own answers: their bytes.
-/
import Derived.Test.YtigaaidacndeiaaGreatDoorTokP
import Derived.ArgAppend
import Derived.Lib.ConvBytes
import Derived.Test.YtigaaidacndeiaaGreatDoorParP
namespace Go.Proofs.YtigaaidacndeiaaGreatDoor

open Go Go.RowKit

theorem fmt_six : fmtL [6] = [54] := by
  unfold fmtL digs
  show Lib.join [Lib.decDigits 6] [59] = [54]
  rw [Lib.decDigits, dif_pos (by omega)]
  rfl
theorem fmt_none : fmtL [] = [] := rfl
def dollar : ByteArray := ⟨#[36]⟩
theorem fix_check : checkP 4 112 63 [6] ⟨#[36]⟩ [] = 0 := by decide +kernel
theorem fix_bytes : bytesL 4 112 63 [6] ⟨#[36]⟩ [] true = [155, 63, 54, 36, 112] := by
  show leadL 91 true ++ signsL 112 63 [6] ⟨#[36]⟩ ++ [] = _
  unfold signsL
  rw [fmt_six]
  rfl
theorem fix_id : idP 4 112 63 ⟨#[36]⟩ = ⟨#[63, 36, 112]⟩ := by
  unfold idP signsL
  rw [fmt_none]
  rfl
theorem fix_str : bstr [155, 63, 54, 36, 112] = ⟨#[155, 63, 54, 36, 112]⟩ := rfl


end Go.Proofs.YtigaaidacndeiaaGreatDoor

namespace Go.Proofs.YtigaaidacndeiaaGreatDoor

open Go Go.RowKit

/-- What is known of a Csi that can be. -/
theorem csi_valid {c m : Nat} {ps : List Int} {s : ByteArray} {dt : List Nat} (h : checkP 4 c m ps s dt = 0) : dt = [] ∧ (64 ≤ c ∧ c ≤ 126) ∧ (m = 0 ∨ (60 ≤ m ∧ m ≤ 63)) ∧ s.size ≤ 3 ∧ ∀ b ∈ s.data.toList, 32 ≤ b.toNat ∧ b.toNat ≤ 47 := by
  obtain ⟨_, _, h3, _, _, _, hp, hc, hw⟩ := check_zero h
  have hp2 : sameQ 4 0 0 [] (ByteArray.mk #[]) dt 4 0 0 [] (ByteArray.mk #[]) [] = true := hp
  rw [same_zero] at hp2
  simp only [Bool.and_eq_true, decide_eq_true_eq] at hp2
  have hc2 : amongB c 64 126 = true := hc
  unfold amongB at hc2
  unfold writtenB amongB at hw
  simp only [Bool.and_eq_true, Bool.or_eq_true, decide_eq_true_eq, beq_iff_eq] at hc2 hw
  refine ⟨List.length_eq_zero_iff.1 hp2.2.2.2.2, hc2, hw.1, h3, fun b hb => ?_⟩
  have := List.all_eq_true.1 hw.2.1 b hb
  unfold interB amongB at this
  simpa using this
theorem id_four (c m : Nat) (s : ByteArray) : (idP 4 c m s).data.toList = ((if m = 0 then [] else [m]) ++ natL s.data.toList ++ [c]).map UInt8.ofNat := by
  have e : idP 4 c m s = bstr (signsL c m [] s) := rfl
  rw [e, bstr_list]
  unfold signsL
  rw [fmt_none]
  simp [natL]
theorem id_size (c m : Nat) (s : ByteArray) (h : s.size ≤ 3) : 1 ≤ (idP 4 c m s).size ∧ (idP 4 c m s).size ≤ 5 := by
  rw [← dlen, id_four, List.length_map, List.length_append, List.length_append, natL_len, dlen]
  split
  · simp; omega
  · simp; omega
theorem nat_map {l r : List Nat} (h1 : ∀ n ∈ l, n < 256) (h2 : ∀ n ∈ r, n < 256) (h : l.map UInt8.ofNat = r.map UInt8.ofNat) : l = r := by
  apply bstr_inj h1 h2
  apply ByteArray.ext
  apply Array.ext'
  rw [bstr_list, bstr_list, h]
theorem natL_inj {a b : List UInt8} (h : natL a = natL b) : a = b := by
  unfold natL at h
  exact (List.map_inj_right (fun x y e => UInt8.toNat_inj.1 e)).1 h
theorem id_inj {c m c2 m2 : Nat} {s s2 : ByteArray} (hc : 64 ≤ c ∧ c ≤ 126) (hm : m = 0 ∨ (60 ≤ m ∧ m ≤ 63)) (hs : ∀ b ∈ s.data.toList, 32 ≤ b.toNat ∧ b.toNat ≤ 47) (hc2 : 64 ≤ c2 ∧ c2 ≤ 126) (hm2 : m2 = 0 ∨ (60 ≤ m2 ∧ m2 ≤ 63)) (hs2 : ∀ b ∈ s2.data.toList, 32 ≤ b.toNat ∧ b.toNat ≤ 47)
    (h : idP 4 c m s = idP 4 c2 m2 s2) : c = c2 ∧ m = m2 ∧ s = s2 := by
  have e := congrArg (fun x : ByteArray => x.data.toList) h
  simp only [id_four] at e
  have nlt : ∀ (s : ByteArray), (∀ b ∈ s.data.toList, 32 ≤ b.toNat ∧ b.toNat ≤ 47) → ∀ n ∈ natL s.data.toList, 32 ≤ n ∧ n ≤ 47 := by
    intro s hs n hn
    unfold natL at hn
    obtain ⟨b, hb, rfl⟩ := List.mem_map.1 hn
    exact hs b hb
  have hn := nlt s hs
  have hn2 := nlt s2 hs2
  have e2 := nat_map (l := (if m = 0 then [] else [m]) ++ natL s.data.toList ++ [c]) (r := (if m2 = 0 then [] else [m2]) ++ natL s2.data.toList ++ [c2]) (by
    intro n hx
    rw [List.mem_append, List.mem_append] at hx
    rcases hx with (hx | hx) | hx
    · split at hx
      · cases hx
      · have : n = m := by simpa using hx
        omega
    · have := hn n hx; omega
    · have : n = c := by simpa using hx
      omega) (by
    intro n hx
    rw [List.mem_append, List.mem_append] at hx
    rcases hx with (hx | hx) | hx
    · split at hx
      · cases hx
      · have : n = m2 := by simpa using hx
        omega
    · have := hn2 n hx; omega
    · have : n = c2 := by simpa using hx
      omega) e
  have e3 := List.append_inj' e2 rfl
  have hcc : c = c2 := by simpa using e3.2
  have e4 := e3.1
  have fin : natL s.data.toList = natL s2.data.toList → s = s2 := fun h => ByteArray.ext (Array.ext' (natL_inj h))
  by_cases z : m = 0
  · rw [if_pos z] at e4
    by_cases z2 : m2 = 0
    · rw [if_pos z2] at e4
      exact ⟨hcc, by omega, fin (by simpa using e4)⟩
    · rw [if_neg z2] at e4
      exfalso
      have : m2 ∈ natL s.data.toList := by
        rw [List.nil_append] at e4
        rw [e4]; simp
      have := hn m2 this
      omega
  · rw [if_neg z] at e4
    by_cases z2 : m2 = 0
    · rw [if_pos z2] at e4
      exfalso
      have : m ∈ natL s2.data.toList := by
        rw [List.nil_append] at e4
        rw [← e4]; simp
      have := hn2 m this
      omega
    · rw [if_neg z2] at e4
      have e5 : m = m2 ∧ natL s.data.toList = natL s2.data.toList := by simpa using e4
      exact ⟨hcc, e5.1, fin e5.2⟩
theorem fn_same {c m c2 m2 : Nat} {ps ps2 : List Int} {s s2 : ByteArray} {dt dt2 : List Nat} (h : checkP 4 c m ps s dt = 0) (h2 : checkP 4 c2 m2 ps2 s2 dt2 = 0) :
    sameQ 4 c m ps s dt 4 c2 m2 ps2 s2 dt2 = (((idP 4 c m s).toList == (idP 4 c2 m2 s2).toList) && (ps == ps2)) := by
  obtain ⟨d1, q1, q2, q3, q4⟩ := csi_valid h
  obtain ⟨d2, r1, r2, r3, r4⟩ := csi_valid h2
  subst d1 d2
  rw [str_eq]
  unfold sameQ
  by_cases e : idP 4 c m s = idP 4 c2 m2 s2
  · obtain ⟨rfl, rfl, rfl⟩ := id_inj q1 q2 q4 r1 r2 r4 e
    simp
  · rw [decide_eq_false e, Bool.false_and]
    rcases hq : (((4 : Int) == 4) && (((c : Int) == c2) && (((m : Int) == m2) && ((s.toList == s2.toList) && ((ps == ps2) && decide (bstr ([] : List Nat) = bstr [])))))) with _ | _
    · rfl
    · exfalso
      simp only [Bool.and_eq_true, beq_iff_eq] at hq
      apply e
      have hc : c = c2 := by omega
      have hm : m = m2 := by omega
      have hs : s = s2 := by
        have := hq.2.2.2.1
        rw [ByteArray.toList_eq, ByteArray.toList_eq] at this
        exact ByteArray.ext (Array.ext' this)
      rw [hc, hm, hs]
end Go.Proofs.YtigaaidacndeiaaGreatDoor

namespace Go.Proofs.YtigaaidacndeiaaGreatDoor

open Go Go.RowKit

theorem lead_inj {c d : Nat} {e : Bool} {r r' : List Nat} (h : leadL c e ++ r = leadL d e ++ r') : c = d ∧ r = r' := by
  unfold leadL at h
  by_cases h1 : e = true ∧ 64 ≤ c ∧ c ≤ 95
  · by_cases h2 : e = true ∧ 64 ≤ d ∧ d ≤ 95
    · rw [if_pos h1, if_pos h2] at h
      simp only [List.cons_append, List.nil_append, List.cons.injEq] at h
      exact ⟨by omega, h.2⟩
    · rw [if_pos h1, if_neg h2] at h
      simp only [List.cons_append, List.nil_append, List.cons.injEq] at h
      omega
  · by_cases h2 : e = true ∧ 64 ≤ d ∧ d ≤ 95
    · rw [if_neg h1, if_pos h2] at h
      simp only [List.cons_append, List.nil_append, List.cons.injEq] at h
      omega
    · rw [if_neg h1, if_neg h2] at h
      simp only [List.cons_append, List.nil_append, List.cons.injEq] at h
      exact ⟨h.2.1, h.2.2⟩
theorem lead_one {c x : Nat} {e : Bool} {r : List Nat} (hc : c ≠ 27) (h8 : c < 128 ∨ 160 ≤ c) (h : [c] = leadL x e ++ r) : False := by
  unfold leadL at h
  by_cases h1 : e = true ∧ 64 ≤ x ∧ x ≤ 95
  · rw [if_pos h1] at h
    simp only [List.cons_append, List.nil_append, List.cons.injEq] at h
    omega
  · rw [if_neg h1] at h
    simp only [List.cons_append, List.nil_append, List.cons.injEq] at h
    exact hc h.1
theorem split_at (p : Nat → Prop) : ∀ (a b r r' : List Nat), (∀ x ∈ a, p x) → (∀ x ∈ b, p x) → (∀ x t, r = x :: t → ¬ p x) → (∀ x t, r' = x :: t → ¬ p x) → a ++ r = b ++ r' → a = b ∧ r = r'
  | [], [], _, _, _, _, _, _, h => ⟨rfl, h⟩
  | x :: a, [], r, _, ha, _, _, hr', h => absurd (ha x (by simp)) (hr' x (a ++ r) (by simpa using h.symm))
  | [], y :: b, _, r', _, hb, hr, _, h => absurd (hb y (by simp)) (hr y (b ++ r') (by simpa using h))
  | x :: a, y :: b, r, r', ha, hb, hr, hr', h => by
    simp only [List.cons_append, List.cons.injEq] at h
    obtain ⟨rfl, h⟩ := h
    obtain ⟨rfl, e⟩ := split_at p a b r r' (fun z hz => ha z (by simp [hz])) (fun z hz => hb z (by simp [hz])) hr hr' h
    exact ⟨rfl, e⟩
theorem head_of {a b : List Nat} {x : Nat} {t : List Nat} (h : a ++ b = x :: t) : x ∈ a ∨ ∃ t', b = x :: t' := by
  cases a with
  | nil => exact .inr ⟨t, by simpa using h⟩
  | cons y a => simp only [List.cons_append, List.cons.injEq] at h; exact .inl (by rw [h.1]; simp)
theorem fmt_dig (ps : List Int) : ∀ n ∈ natL (fmtL ps), 48 ≤ n ∧ n ≤ 59 := by
  intro n hn
  obtain ⟨b, hb, rfl⟩ := List.mem_map.1 hn
  have := (fmt_back ps).1 b hb
  unfold okb at this
  simp only [Bool.or_eq_true, beq_iff_eq, Bool.and_eq_true, decide_eq_true_eq, UInt8.le_iff_toNat_le] at this
  rcases this with rfl | ⟨h1, h2⟩
  · exact ⟨by decide, by decide⟩
  · exact ⟨h1, by have : b.toNat ≤ 57 := h2; omega⟩
theorem in_range {ps : List Int} (h : ps.any outB = false) : ps.map clip65 = ps := by
  induction ps with
  | nil => rfl
  | cons x l ih =>
    rw [List.any_cons, Bool.or_eq_false_iff] at h
    rw [List.map_cons, ih h.2]
    have : x = clip65 x := by
      have := h.1
      unfold outB at this
      show x = clipP x 0 65535
      simpa using this
    rw [← this]
theorem fmt_inj {ps ps2 : List Int} (h1 : ps.length ≤ 30) (h2 : ps2.length ≤ 30) (o1 : ps.any outB = false) (o2 : ps2.any outB = false) (h : natL (fmtL ps) = natL (fmtL ps2)) : ps = ps2 := by
  have e := congrArg numsOf (natL_inj h)
  rw [(fmt_back ps).2, (fmt_back ps2).2, List.take_of_length_le h1, List.take_of_length_le h2, in_range o1, in_range o2] at e
  exact e
/-- What a token's parts may be, where they stand behind one another. -/
structure PartsOk (c m : Nat) (ps : List Int) (s : ByteArray) : Prop where
  code : 64 ≤ c ∧ c ≤ 126
  mark : m = 0 ∨ (60 ≤ m ∧ m ≤ 63)
  len : ps.length ≤ 30
  rng : ps.any outB = false
  int : ∀ n ∈ natL s.data.toList, 32 ≤ n ∧ n ≤ 47
theorem signs_inj {c m : Nat} {ps : List Int} {s : ByteArray} {c2 m2 : Nat} {ps2 : List Int} {s2 : ByteArray} {r r' : List Nat} (h1 : PartsOk c m ps s) (h2 : PartsOk c2 m2 ps2 s2) (h : signsL c m ps s ++ r = signsL c2 m2 ps2 s2 ++ r') :
    c = c2 ∧ m = m2 ∧ ps = ps2 ∧ s = s2 ∧ r = r' := by
  unfold signsL at h
  simp only [List.append_assoc, List.cons_append, List.nil_append] at h
  have hm : ∀ {m : Nat}, (m = 0 ∨ (60 ≤ m ∧ m ≤ 63)) → ∀ x ∈ (if m = 0 then ([] : List Nat) else [m]), 60 ≤ x ∧ x ≤ 63 := by
    intro m hm x hx
    split at hx
    · cases hx
    · simp only [List.mem_singleton] at hx; omega
  have hd : ∀ {c m : Nat} {ps : List Int} {s : ByteArray} {r : List Nat}, PartsOk c m ps s → ∀ x t, natL (fmtL ps) ++ (natL s.data.toList ++ c :: r) = x :: t → ¬ (60 ≤ x ∧ x ≤ 63) := by
    intro c m ps s r hp x t hx
    rcases head_of hx with hx | ⟨t', hx⟩
    · have := fmt_dig ps x hx; omega
    · rcases head_of hx with hx | ⟨t', hx⟩
      · have := hp.int x hx; omega
      · simp only [List.cons.injEq] at hx; have := hp.code; omega
  have hd2 : ∀ {c m : Nat} {ps : List Int} {s : ByteArray} {r : List Nat}, PartsOk c m ps s → ∀ x t, natL s.data.toList ++ c :: r = x :: t → ¬ (48 ≤ x ∧ x ≤ 59) := by
    intro c m ps s r hp x t hx
    rcases head_of hx with hx | ⟨t', hx⟩
    · have := hp.int x hx; omega
    · simp only [List.cons.injEq] at hx; have := hp.code; omega
  have hd3 : ∀ {c m : Nat} {ps : List Int} {s : ByteArray} {r : List Nat}, PartsOk c m ps s → ∀ x t, c :: r = x :: t → ¬ (32 ≤ x ∧ x ≤ 47) := by
    intro c m ps s r hp x t hx
    simp only [List.cons.injEq] at hx; have := hp.code; omega
  obtain ⟨e1, h⟩ := split_at (fun x => 60 ≤ x ∧ x ≤ 63) _ _ _ _ (hm h1.mark) (hm h2.mark) (hd h1) (hd h2) h
  obtain ⟨e2, h⟩ := split_at (fun x => 48 ≤ x ∧ x ≤ 59) _ _ _ _ (fmt_dig ps) (fmt_dig ps2) (hd2 h1) (hd2 h2) h
  obtain ⟨e3, h⟩ := split_at (fun x => 32 ≤ x ∧ x ≤ 47) _ _ _ _ h1.int h2.int (hd3 h1) (hd3 h2) h
  simp only [List.cons.injEq] at h
  refine ⟨h.1, ?_, fmt_inj h1.len h2.len h1.rng h2.rng e2, ByteArray.ext (Array.ext' (natL_inj e3)), h.2⟩
  split at e1 <;> split at e1 <;> simp at e1 <;> omega
/-- What is known of a token that can be, kind by kind. -/
def TkV (k : Int) (c m : Nat) (ps : List Int) (s : ByteArray) (dt : List Nat) : Prop :=
  ((k = 1 ∨ k = 2) ∧ c ≠ 27 ∧ (c < 128 ∨ 160 ≤ c) ∧ (k = 2 ↔ c < 32) ∧ m = 0 ∧ ps = [] ∧ s.data.toList = [] ∧ dt = []) ∨
  (k = 3 ∧ 48 ≤ c ∧ c ≤ 126 ∧ (s.data.toList = [] → leadsB c = false) ∧ (∀ n ∈ natL s.data.toList, 32 ≤ n ∧ n ≤ 47) ∧ m = 0 ∧ ps = [] ∧ dt = []) ∨
  (k = 4 ∧ PartsOk c m ps s ∧ dt = []) ∨ (k = 5 ∧ PartsOk c m ps s) ∨ (6 ≤ k ∧ k ≤ 9 ∧ c = 0 ∧ m = 0 ∧ ps = [] ∧ s.data.toList = [])
theorem inter_all {s : ByteArray} (h : s.data.toList.all interB = true) : ∀ n ∈ natL s.data.toList, 32 ≤ n ∧ n ≤ 47 := by
  intro n hn
  obtain ⟨b, hb, rfl⟩ := List.mem_map.1 hn
  have := List.all_eq_true.1 h b hb
  unfold interB amongB at this
  simpa using this
theorem tk_valid {k : Int} {c m : Nat} {ps : List Int} {s : ByteArray} {dt : List Nat} (h : checkP k c m ps s dt = 0) : TkV k c m ps s dt := by
  obtain ⟨z1, z9, z3, z4, _, z6, hp, hc, hw⟩ := check_zero h
  unfold writtenB at hw
  simp only [Bool.and_eq_true, Bool.or_eq_true, beq_iff_eq] at hw
  have hi := inter_all hw.2.1
  have hm : m = 0 ∨ (60 ≤ m ∧ m ≤ 63) := by
    rcases hw.1 with h | h
    · exact .inl h
    · unfold amongB at h; right; simpa using h
  have h9 : k = 1 ∨ k = 2 ∨ k = 3 ∨ k = 4 ∨ k = 5 ∨ 6 ≤ k := by omega
  have nl : ∀ {s : ByteArray}, s.size = 0 → s.data.toList = [] := fun {s} h => List.length_eq_zero_iff.1 (by rw [dlen]; exact h)
  unfold TkV
  rcases h9 with rfl | rfl | rfl | rfl | rfl | h6
  · have hp2 : sameQ 1 0 m ps s dt 1 0 0 [] (ByteArray.mk #[]) [] = true := hp
    rw [same_zero] at hp2
    have hc2 : (amongB c 32 126 || decide (160 ≤ c)) = true := hc
    unfold amongB at hc2
    simp only [Bool.and_eq_true, Bool.or_eq_true, decide_eq_true_eq, beq_iff_eq] at hp2 hc2
    exact .inl ⟨.inl rfl, by omega, by omega, by omega, by omega, List.length_eq_zero_iff.1 hp2.2.2.2.1, nl hp2.2.2.1, List.length_eq_zero_iff.1 hp2.2.2.2.2⟩
  · have hp2 : sameQ 2 0 m ps s dt 2 0 0 [] (ByteArray.mk #[]) [] = true := hp
    rw [same_zero] at hp2
    have hc2 : (amongB c 1 31 && ((c != 24) && (c != 27))) = true := hc
    unfold amongB at hc2
    simp only [Bool.and_eq_true, decide_eq_true_eq, beq_iff_eq, bne_iff_ne] at hp2 hc2
    exact .inl ⟨.inr rfl, hc2.2.2, by omega, by omega, by omega, List.length_eq_zero_iff.1 hp2.2.2.2.1, nl hp2.2.2.1, List.length_eq_zero_iff.1 hp2.2.2.2.2⟩
  · have hp2 : sameQ 3 0 m ps (ByteArray.mk #[]) dt 3 0 0 [] (ByteArray.mk #[]) [] = true := hp
    rw [same_zero] at hp2
    have hc2 : (amongB c 48 126 && (!decide (s.size = 0) || !leadsB c)) = true := hc
    unfold amongB at hc2
    simp only [Bool.and_eq_true, Bool.or_eq_true, decide_eq_true_eq, beq_iff_eq, Bool.not_eq_true', decide_eq_false_iff_not] at hp2 hc2
    refine .inr (.inl ⟨rfl, hc2.1.1, hc2.1.2, fun hs => ?_, hi, by omega, List.length_eq_zero_iff.1 hp2.2.2.2.1, List.length_eq_zero_iff.1 hp2.2.2.2.2⟩)
    rcases hc2.2 with h | h
    · exact absurd (by rw [← dlen, hs]; rfl) h
    · exact h
  · have hp2 : sameQ 4 0 0 [] (ByteArray.mk #[]) dt 4 0 0 [] (ByteArray.mk #[]) [] = true := hp
    rw [same_zero] at hp2
    have hc2 : amongB c 64 126 = true := hc
    unfold amongB at hc2
    simp only [Bool.and_eq_true, decide_eq_true_eq, beq_iff_eq] at hp2 hc2
    exact .inr (.inr (.inl ⟨rfl, ⟨hc2, hm, z4, z6, hi⟩, List.length_eq_zero_iff.1 hp2.2.2.2.2⟩))
  · have hc2 : amongB c 64 126 = true := hc
    unfold amongB at hc2
    simp only [Bool.and_eq_true, decide_eq_true_eq] at hc2
    exact .inr (.inr (.inr (.inl ⟨rfl, ⟨hc2, hm, z4, z6, hi⟩⟩)))
  · have hp2 : sameQ k c m ps s [] k 0 0 [] (ByteArray.mk #[]) [] = true := by
      unfold pureB at hp
      rwa [if_neg (by omega), if_neg (by omega), if_neg (by omega), if_neg (by omega)] at hp
    rw [same_zero] at hp2
    simp only [Bool.and_eq_true, decide_eq_true_eq, beq_iff_eq] at hp2
    exact .inr (.inr (.inr (.inr ⟨h6, z9, by omega, by omega, List.length_eq_zero_iff.1 hp2.2.2.2.1, nl hp2.2.2.1⟩)))
/-- How the bytes of a token begin. -/
theorem bytes_form {k : Int} {c m : Nat} {ps : List Int} {s : ByteArray} {dt : List Nat} (e : Bool) (h : TkV k c m ps s dt) :
    ((k = 1 ∨ k = 2) ∧ bytesL k c m ps s dt e = [c]) ∨
    (k = 3 ∧ s.data.toList = [] ∧ bytesL k c m ps s dt e = leadL c e ++ []) ∨
    (k = 3 ∧ ∃ b t, natL s.data.toList = b :: t ∧ 32 ≤ b ∧ b ≤ 47 ∧ bytesL k c m ps s dt e = leadL b e ++ (t ++ [c])) ∨
    (4 ≤ k ∧ k ≤ 9 ∧ bytesL k c m ps s dt e = leadL (begN k) e ++ ((if k = 4 ∨ k = 5 then signsL c m ps s else []) ++ (if k = 4 then [] else dt ++ leadL 92 e))) := by
  rcases h with ⟨hk, _⟩ | ⟨rfl, _, _, _, hi, rfl, rfl, rfl⟩ | ⟨rfl, _⟩ | ⟨rfl, _⟩ | ⟨h6, h9, _⟩
  · exact .inl ⟨hk, if_pos hk⟩
  · have eb : bytesL 3 c 0 [] s [] e = escL c 0 [] s e := rfl
    rw [eb]
    unfold escL
    cases hs : natL s.data.toList with
    | nil =>
      have h0 : s.data.toList = [] := List.map_eq_nil_iff.1 hs
      refine .inr (.inl ⟨rfl, h0, ?_⟩)
      rw [if_pos (by rw [← dlen, h0]; rfl), List.append_nil]
    | cons b t =>
      have hb := hi b (by rw [hs]; simp)
      refine .inr (.inr (.inl ⟨rfl, b, t, rfl, hb.1, hb.2, ?_⟩))
      rw [if_neg (by rw [← dlen, ← natL_len, hs]; simp)]
      unfold signsL leadL
      rw [fmt_none, if_pos rfl, if_neg (by omega), hs]
      rfl
  · exact .inr (.inr (.inr ⟨by omega, by omega, by show leadL 91 e ++ signsL c m ps s ++ [] = _; rw [List.append_assoc]; rfl⟩))
  · exact .inr (.inr (.inr ⟨by omega, by omega, by show leadL 80 e ++ signsL c m ps s ++ (dt ++ leadL 92 e) = _; rw [List.append_assoc]; rfl⟩))
  · refine .inr (.inr (.inr ⟨by omega, by omega, ?_⟩))
    unfold bytesL
    rw [if_neg (by omega), if_neg (by omega), List.append_assoc]
theorem beg_inj {k k2 : Int} (h : 4 ≤ k ∧ k ≤ 9) (h2 : 4 ≤ k2 ∧ k2 ≤ 9) (e : begN k = begN k2) : k = k2 := by
  have a : k = 4 ∨ k = 5 ∨ k = 6 ∨ k = 7 ∨ k = 8 ∨ k = 9 := by omega
  have b : k2 = 4 ∨ k2 = 5 ∨ k2 = 6 ∨ k2 = 7 ∨ k2 = 8 ∨ k2 = 9 := by omega
  rcases a with rfl | rfl | rfl | rfl | rfl | rfl <;> rcases b with rfl | rfl | rfl | rfl | rfl | rfl <;> first | rfl | (exact absurd e (by decide))
theorem beg_leads {k : Int} (h : 4 ≤ k ∧ k ≤ 9) : leadsB (begN k) = true ∧ 80 ≤ begN k := by
  have a : k = 4 ∨ k = 5 ∨ k = 6 ∨ k = 7 ∨ k = 8 ∨ k = 9 := by omega
  rcases a with rfl | rfl | rfl | rfl | rfl | rfl <;> exact ⟨by decide, by decide⟩
theorem bytes_inj {k : Int} {c m : Nat} {ps : List Int} {s : ByteArray} {dt : List Nat} {k2 : Int} {c2 m2 : Nat} {ps2 : List Int} {s2 : ByteArray} {dt2 : List Nat} (e : Bool) (h : TkV k c m ps s dt) (h2 : TkV k2 c2 m2 ps2 s2 dt2)
    (he : bytesL k c m ps s dt e = bytesL k2 c2 m2 ps2 s2 dt2 e) : k = k2 ∧ c = c2 ∧ m = m2 ∧ ps = ps2 ∧ s = s2 ∧ dt = dt2 := by
  have nil2 : ∀ {s s2 : ByteArray}, s.data.toList = [] → s2.data.toList = [] → s = s2 := fun {s s2} a b => ByteArray.ext (Array.ext' (a.trans b.symm))
  rcases bytes_form e h with ⟨hk, f⟩ | ⟨hk, hs, f⟩ | ⟨hk, b, t, hs, hb1, hb2, f⟩ | ⟨hk, hk', f⟩ <;>
    rcases bytes_form e h2 with ⟨gk, g⟩ | ⟨gk, gs, g⟩ | ⟨gk, b', t', gs, gb1, gb2, g⟩ | ⟨gk, gk', g⟩ <;> rw [f, g] at he
  · rcases h with ⟨_, _, _, q, rfl, rfl, qs, rfl⟩ | h | h | h | h
    · rcases h2 with ⟨_, _, _, q2, rfl, rfl, qs2, rfl⟩ | h2 | h2 | h2 | h2
      · have hc : c = c2 := by simpa using he
        subst hc
        exact ⟨by omega, rfl, rfl, rfl, nil2 qs qs2, rfl⟩
      all_goals (exfalso; have := h2.1; omega)
    all_goals (exfalso; have := h.1; omega)
  · exfalso
    rcases h with ⟨_, q1, q2, _⟩ | h | h | h | h
    · exact lead_one q1 q2 he
    all_goals (have := h.1; omega)
  · exfalso
    rcases h with ⟨_, q1, q2, _⟩ | h | h | h | h
    · exact lead_one q1 q2 he
    all_goals (have := h.1; omega)
  · exfalso
    rcases h with ⟨_, q1, q2, _⟩ | h | h | h | h
    · exact lead_one q1 q2 he
    all_goals (have := h.1; omega)
  · exfalso
    rcases h2 with ⟨_, q1, q2, _⟩ | h2 | h2 | h2 | h2
    · exact lead_one q1 q2 he.symm
    all_goals (have := h2.1; omega)
  · subst hk gk
    rcases h with h | ⟨_, _, _, _, _, rfl, rfl, rfl⟩ | h | h | h
    · exfalso; have := h.1; omega
    · rcases h2 with h2 | ⟨_, _, _, _, _, rfl, rfl, rfl⟩ | h2 | h2 | h2
      · exfalso; have := h2.1; omega
      · exact ⟨rfl, (lead_inj he).1, rfl, rfl, nil2 hs gs, rfl⟩
      all_goals (exfalso; have := h2.1; omega)
    all_goals (exfalso; have := h.1; omega)
  · exfalso
    have := (lead_inj he).1
    rcases h with h | ⟨_, _, _, _, _, rfl, rfl, rfl⟩ | h | h | h
    · have := h.1; omega
    · omega
    all_goals (have := h.1; omega)
  · exfalso
    have e1 := (lead_inj he).1
    have e2 := (beg_leads ⟨gk, gk'⟩).1
    rcases h with h | ⟨_, _, _, q, _, rfl, rfl, rfl⟩ | h | h | h
    · have := h.1; omega
    · rw [← e1, q hs] at e2; cases e2
    all_goals (have := h.1; omega)
  · exfalso
    rcases h2 with ⟨_, q1, q2, _⟩ | h2 | h2 | h2 | h2
    · exact lead_one q1 q2 he.symm
    all_goals (have := h2.1; omega)
  · exfalso
    have := (lead_inj he).1
    rcases h2 with h2 | ⟨_, _, _, _, _, rfl, rfl, rfl⟩ | h2 | h2 | h2
    · have := h2.1; omega
    · omega
    all_goals (have := h2.1; omega)
  · subst hk gk
    obtain ⟨e1, e2⟩ := lead_inj he
    obtain ⟨e3, e4⟩ := List.append_inj' e2 rfl
    rcases h with h | ⟨_, _, _, _, _, rfl, rfl, rfl⟩ | h | h | h
    · exfalso; have := h.1; omega
    · rcases h2 with h2 | ⟨_, _, _, _, _, rfl, rfl, rfl⟩ | h2 | h2 | h2
      · exfalso; have := h2.1; omega
      · exact ⟨rfl, by simpa using e4, rfl, rfl, ByteArray.ext (Array.ext' (natL_inj (by rw [hs, gs, e1, e3]))), rfl⟩
      all_goals (exfalso; have := h2.1; omega)
    all_goals (exfalso; have := h.1; omega)
  · exfalso
    have e1 := (lead_inj he).1
    have := (beg_leads ⟨gk, gk'⟩).2
    omega
  · exfalso
    rcases h2 with ⟨_, q1, q2, _⟩ | h2 | h2 | h2 | h2
    · exact lead_one q1 q2 he.symm
    all_goals (have := h2.1; omega)
  · exfalso
    have e1 := (lead_inj he).1
    have e2 := (beg_leads ⟨hk, hk'⟩).1
    rcases h2 with h2 | ⟨_, _, _, q, _, rfl, rfl, rfl⟩ | h2 | h2 | h2
    · have := h2.1; omega
    · rw [e1, q gs] at e2; cases e2
    all_goals (have := h2.1; omega)
  · exfalso
    have e1 := (lead_inj he).1
    have := (beg_leads ⟨hk, hk'⟩).2
    omega
  · obtain ⟨e1, e2⟩ := lead_inj he
    obtain rfl := beg_inj ⟨hk, hk'⟩ ⟨gk, gk'⟩ e1
    clear f g he e1
    rcases h with h | h | ⟨rfl, p1, rfl⟩ | ⟨rfl, p1⟩ | ⟨h6, h9, rfl, rfl, rfl, qs⟩
    · exfalso; have := h.1; omega
    · exfalso; have := h.1; omega
    · rcases h2 with h2 | h2 | ⟨_, p2, rfl⟩ | h2 | h2
      · exfalso; have := h2.1; omega
      · exfalso; have := h2.1; omega
      · obtain ⟨rfl, rfl, rfl, rfl, _⟩ := signs_inj p1 p2 e2
        exact ⟨rfl, rfl, rfl, rfl, rfl, rfl⟩
      all_goals (exfalso; have := h2.1; omega)
    · rcases h2 with h2 | h2 | h2 | ⟨_, p2⟩ | h2
      · exfalso; have := h2.1; omega
      · exfalso; have := h2.1; omega
      · exfalso; have := h2.1; omega
      · obtain ⟨rfl, rfl, rfl, rfl, e3⟩ := signs_inj p1 p2 e2
        exact ⟨rfl, rfl, rfl, rfl, rfl, List.append_cancel_right e3⟩
      · exfalso; have := h2.1; omega
    · rcases h2 with h2 | h2 | h2 | h2 | ⟨_, _, rfl, rfl, rfl, qs2⟩
      · exfalso; have := h2.1; omega
      · exfalso; have := h2.1; omega
      · exfalso; have := h2.1; omega
      · exfalso; have := h2.1; omega
      · have h45 : ¬ (k = 4 ∨ k = 5) := by omega
        have h4 : ¬ k = 4 := by omega
        simp only [if_neg h45, if_neg h4, List.nil_append] at e2
        exact ⟨rfl, rfl, rfl, rfl, nil2 qs qs2, List.append_cancel_right e2⟩
theorem lead_lt (c : Nat) (hc : c < 192) (e : Bool) : ∀ n ∈ leadL c e, n < 256 := by
  intro n hn
  unfold leadL at hn
  split at hn
  · simp only [List.mem_singleton] at hn; omega
  · simp only [List.mem_cons, List.not_mem_nil, or_false] at hn; omega
theorem natL_lt (l : List UInt8) : ∀ n ∈ natL l, n < 256 := by
  intro n hn
  obtain ⟨b, _, rfl⟩ := List.mem_map.1 hn
  exact b.toNat_lt
theorem bytes_lt {k : Int} {c m : Nat} {ps : List Int} {s : ByteArray} {dt : List Nat} (e : Bool) (hc : c < 256) (hm : m < 256) (hd : ∀ n ∈ dt, n < 256) (h : TkV k c m ps s dt) : ∀ n ∈ bytesL k c m ps s dt e, n < 256 := by
  have hs : ∀ n ∈ signsL c m ps s, n < 256 := by
    intro n hn
    unfold signsL at hn
    simp only [List.mem_append, List.mem_singleton] at hn
    rcases hn with ((hn | hn) | hn) | hn
    · split at hn
      · cases hn
      · simp only [List.mem_singleton] at hn; omega
    · exact natL_lt _ n hn
    · exact natL_lt _ n hn
    · omega
  have hb : begN k < 192 := by unfold begN; (repeat' split) <;> omega
  intro n hn
  rcases bytes_form e h with ⟨hk, f⟩ | ⟨hk, hs0, f⟩ | ⟨hk, b, t, hs0, hb1, hb2, f⟩ | ⟨hk, hk', f⟩ <;> rw [f] at hn
  · simp only [List.mem_singleton] at hn; omega
  · rw [List.append_nil] at hn
    refine lead_lt c ?_ e n hn
    rcases h with h | h | h | h | h
    · have := h.1; omega
    · have := h.2.2.1; omega
    · have := h.1; omega
    · have := h.1; omega
    · have := h.1; omega
  · simp only [List.mem_append, List.mem_singleton] at hn
    rcases hn with hn | hn | hn
    · exact lead_lt b (by omega) e n hn
    · exact natL_lt s.data.toList n (by rw [hs0]; simp [hn])
    · omega
  · simp only [List.mem_append] at hn
    rcases hn with hn | hn | hn
    · exact lead_lt _ hb e n hn
    · split at hn
      · exact hs n hn
      · cases hn
    · split at hn
      · cases hn
      · rcases List.mem_append.1 hn with hn | hn
        · exact hd n hn
        · exact lead_lt 92 (by omega) e n hn
theorem same_self (k c m : Int) (ps : List Int) (s : ByteArray) (dt : List Nat) : sameQ k c m ps s dt k c m ps s dt = true := by
  unfold sameQ; simp
/-- Of tokens that can be: just equal bytes, just the same. -/
theorem unlike {k : Int} {c m : Nat} {ps : List Int} {s : ByteArray} {dt : List Nat} {k2 : Int} {c2 m2 : Nat} {ps2 : List Int} {s2 : ByteArray} {dt2 : List Nat} (e : Bool) (hc : c < 256) (hm : m < 256) (hd : ∀ n ∈ dt, n < 256) (hc2 : c2 < 256) (hm2 : m2 < 256) (hd2 : ∀ n ∈ dt2, n < 256)
    (h : checkP k c m ps s dt = 0) (h2 : checkP k2 c2 m2 ps2 s2 dt2 = 0) :
    ((bstr (bytesL k c m ps s dt e)).toList == (bstr (bytesL k2 c2 m2 ps2 s2 dt2 e)).toList) = sameQ k c m ps s dt k2 c2 m2 ps2 s2 dt2 := by
  rw [str_eq, Bool.eq_iff_iff, decide_eq_true_eq]
  constructor
  · intro he
    obtain ⟨rfl, rfl, rfl, rfl, rfl, rfl⟩ := bytes_inj e (tk_valid h) (tk_valid h2) (bstr_inj (bytes_lt e hc hm hd (tk_valid h)) (bytes_lt e hc2 hm2 hd2 (tk_valid h2)) he)
    exact same_self _ _ _ _ _ _
  · intro hs
    unfold sameQ at hs
    simp only [Bool.and_eq_true, beq_iff_eq, decide_eq_true_eq] at hs
    obtain ⟨rfl, h1, h3, h4, rfl, h6⟩ := hs
    obtain rfl : c = c2 := by omega
    obtain rfl : m = m2 := by omega
    obtain rfl : s = s2 := by
      rw [ByteArray.toList_eq, ByteArray.toList_eq] at h4
      exact ByteArray.ext (Array.ext' h4)
    obtain rfl := bstr_inj hd hd2 h6
    rfl
end Go.Proofs.YtigaaidacndeiaaGreatDoor

namespace Go.Proofs.YtigaaidacndeiaaGreatDoor

open Go Go.RowKit

def TlP (k : Int) (c m : Nat) (ps : List Int) (s : ByteArray) (dt : List Nat) (u : Value) : Prop := ∃ P pc D dc, u = .agg (tkC k (c : Int) (m : Int) P ps pc s D dt dc) ∧ ps.length ≤ pc ∧ dt.length ≤ dc
def TlF (B : Nat) (k : Int) (c m : Nat) (ps : List Int) (s : ByteArray) (dt : List Nat) (u : Value) (W : World) : Prop := ∃ P pc D dc, u = .agg (tkC k (c : Int) (m : Int) P ps pc s D dt dc) ∧ OInts W B (.slice P ps.length pc) ps ∧ OByt W B (.slice D dt.length dc) dt
def cellsV : Value → Array Value
  | .agg cs => cs
  | _ => #[]
theorem own_stab2 {ks : Kinds} {wr w w' : World} {T : TypeId} {n : Nat} {v : Value} {xs : List Value} (h : T ∉ boxes ks) (hk : Kept ks wr w w') (ho : w.ownsRow wr.heap.size T 1 v n xs) : w'.ownsRow wr.heap.size T 1 v n xs := by
  obtain ⟨hl, hr⟩ := ho
  rcases hr with ⟨rfl, hn⟩ | ⟨g, cap, cur, rfl, hb, hg, r⟩
  · exact ⟨hl, .inl ⟨rfl, hn⟩⟩
  · have hlt : g < w.heap.size := Blk.lt (show Blk w g T cur from hg)
    refine ⟨hl, .inr ⟨g, cap, cur, rfl, hb, (hk.block g hlt hb (fun cs T' fr e => ?_)).trans hg, r⟩⟩
    rw [hg] at e
    injection e with e
    injection e with _ e2 _
    rw [← e2]
    exact h
theorem tl_stab (ks : Kinds) (wr : World) (k : Int) (c m : Nat) (ps : List Int) (s : ByteArray) (dt : List Nat) (h1 : 3 ∉ boxes ks) (h2 : 5 ∉ boxes ks) : ∀ v w w', Kept ks wr w w' → TlF wr.heap.size k c m ps s dt v w → TlF wr.heap.size k c m ps s dt v w' := by
  rintro v w w' hk ⟨P, pc, D, dc, e, ho, hb⟩
  exact ⟨P, pc, D, dc, e, own_stab2 h1 hk ho, own_stab2 h2 hk hb⟩
theorem tl_same {B : Nat} {k : Int} {c m : Nat} {ps : List Int} {s : ByteArray} {dt : List Nat} {P D : Option Addr} {pc dc : Nat} {W : World} (h : TlF B k c m ps s dt (.agg (tkC k (c : Int) (m : Int) P ps pc s D dt dc)) W) : OInts W B (.slice P ps.length pc) ps ∧ OByt W B (.slice D dt.length dc) dt := by
  obtain ⟨P', pc', D', dc', e, ho, hb⟩ := h
  unfold tkC at e
  simp only [Value.agg.injEq, Array.mk.injEq, List.cons.injEq, Value.slice.injEq, true_and, and_true] at e
  obtain ⟨⟨rfl, rfl⟩, rfl, rfl⟩ := e
  exact ⟨ho, hb⟩

/-- What is answered of the bytes, where the token can be. -/
theorem bytes_zero (k : Int) (c m : Nat) (P : Option Addr) (ps : List Int) (pc : Nat) (s : ByteArray) (D : Option Addr) (dt : List Nat) (dc : Nat) (hc : c < 256) (hsz : s.size ≤ maxLen) (hp : ps.length ≤ maxLen) (hpc : ps.length ≤ pc) (hd : dt.length ≤ maxLen) (eight : Bool) (hz : checkP k c m ps s dt = 0) (w : World) (ht : Ten w) (hr : RInts w P ps) (hb : RByt w D dt) :
    Calls Tryz.prog 35 #[.agg (tkC k (c : Int) (m : Int) P ps pc s D dt dc), .bool eight] w fun e w' => ∃ A n, e = .returned (.tuple #[.slice A (bytesL k c m ps s dt eight).length n, .int .i64 0]) ∧ RByt w' A (bytesL k c m ps s dt eight) ∧ Below w.heap.size w w' := by
  refine (bytes_any k c m P ps pc s D dt dc hc hsz hp hpc hd eight w ht hr hb).mono ?_
  rintro e w' ⟨h | ⟨_, v, rfl, ho⟩, hbl⟩
  · exact absurd hz h.1
  · obtain ⟨A, n, rfl⟩ := ho.form
    exact ⟨A, n, rfl, ho.reads, hbl⟩
end Go.Proofs.YtigaaidacndeiaaGreatDoor

namespace Go.Proofs.YtigaaidacndeiaaGreatDoor

open Go Go.RowKit

set_option maxRecDepth 100000 in
set_option maxHeartbeats 4000000 in
theorem refPair_any (c : Nat) (hc : c < 256) (eight : Bool) (w : World) : Calls Tryz.prog 64 #[.int .u8 (c : Int), .bool eight] w fun e w' => ∃ v, e = .returned v ∧ OByt w' w.heap.size v (leadL c eight) ∧ Below w.heap.size w w' := by
  have HB := Lib.hid (fun o => (Below.refl w.heap.size w).alloc (Nat.le_refl _) o)
  have HO2 : Hid (OByt (w.alloc (.cells #[.int .u8 27, .int .u8 (c : Int)] 5)) w.heap.size (.slice (some ⟨w.heap.size, 0, none⟩) 2 2) [27, c]) := Lib.hid (World.ownsRow_lit (e := 5) (size := 1) w #[.int .u8 27, .int .u8 (c : Int)] 2 (Nat.le_refl _) (by unfold maxLen; omega) rfl)
  cases eight with
  | false =>
    rw [show leadL c false = [27, c] from rfl]
    go_enter Tryz.func64, Tryz.ntmps64
    go_wp2_with fail
    go_ret
    exact ⟨_, rfl, HO2.out, HB.out _⟩
  | true =>
    by_cases h : 64 ≤ c ∧ c ≤ 95
    · have h1 : decide ((64 : Int) ≤ (c : Int)) = true := by simp; omega
      have h2 : decide ((c : Int) < 96) = true := by simp; omega
      have hl : leadL c true = [c + 64] := if_pos ⟨rfl, h⟩
      rw [hl]
      have hw : IntKind.u8.wrap ((c : Int) + 64) = ((c + 64 : Nat) : Int) := by rw [IntKind.wrap_u8]; omega
      have HO1 : Hid (OByt (w.alloc (.cells #[.int .u8 ((c + 64 : Nat) : Int)] 5)) w.heap.size (.slice (some ⟨w.heap.size, 0, none⟩) 1 1) [c + 64]) := Lib.hid (World.ownsRow_lit (e := 5) (size := 1) w #[.int .u8 ((c + 64 : Nat) : Int)] 1 (Nat.le_refl _) (by unfold maxLen; omega) rfl)
      generalize c + 64 = d at *
      clear h hl
      go_enter Tryz.func64, Tryz.ntmps64
      go_wp2_with fail
      go_ret
      exact ⟨_, rfl, HO1.out, HB.out _⟩
    · have hl : leadL c true = [27, c] := if_neg (fun x => h x.2)
      rw [hl]
      have hh : decide ((64 : Int) ≤ (c : Int)) = false ∨ (decide ((64 : Int) ≤ (c : Int)) = true ∧ decide ((c : Int) < 96) = false) := by
        by_cases h1 : 64 ≤ c
        · exact .inr ⟨by simp; omega, by simp; omega⟩
        · exact .inl (by simp; omega)
      clear h hl
      rcases hh with h1 | ⟨h1, h2⟩
      all_goals
        go_enter Tryz.func64, Tryz.ntmps64
        go_wp2_with fail
        go_ret
        exact ⟨_, rfl, HO2.out, HB.out _⟩
theorem conv_new1 (W : World) (n : Nat) : (convert 25 9 (.slice (some ⟨W.heap.size, 0, none⟩) 1 1)).run Tryz.prog (W.alloc (.cells #[.int .u8 (n : Int)] 5)) = .ok (.string (bstr [n])) (W.alloc (.cells #[.int .u8 (n : Int)] 5)) := by
  have h : RByt (W.alloc (.cells #[.int .u8 (n : Int)] 5)) (some ⟨W.heap.size, 0, none⟩) [n] := Reads.of_own (World.ownsRow_lit (e := 5) (size := 1) W #[.int .u8 (n : Int)] 1 (Nat.le_refl _) (by unfold maxLen; omega) rfl)
  exact conv_by h 1
theorem bstr_append (a b : List Nat) : bstr (a ++ b) = bstr a ++ bstr b := by
  apply ByteArray.ext
  apply Array.ext'
  rw [bstr_list, List.map_append]
  show _ = (bstr a ++ bstr b).data.toList
  rw [ByteArray.data_append, Array.toList_append, bstr_list, bstr_list]
theorem bstr_nat (s : ByteArray) : bstr (natL s.data.toList) = s := by
  apply ByteArray.ext
  apply Array.ext'
  rw [bstr_list]
  unfold natL
  rw [List.map_map]
  have : (UInt8.ofNat ∘ UInt8.toNat) = id := by funext x; simp
  rw [this, List.map_id]
theorem id_parts (c m : Nat) (s : ByteArray) : bstr (signsL c m [] s) = (if m = 0 then (ByteArray.mk #[]) else bstr [m]) ++ s ++ bstr [c] := by
  unfold signsL
  rw [fmt_none]
  simp only [bstr_append, bstr_nat]
  have e0 : bstr (natL []) = ByteArray.mk #[] := rfl
  rw [e0]
  by_cases h : m = 0
  · rw [if_pos h, if_pos h]
    apply ByteArray.ext; apply Array.ext'
    simp [ByteArray.data_append, bstr]
    rfl
  · rw [if_neg h, if_neg h]
    apply ByteArray.ext; apply Array.ext'
    simp [ByteArray.data_append]


end Go.Proofs.YtigaaidacndeiaaGreatDoor

namespace Go.Proofs.YtigaaidacndeiaaGreatDoor

open Go Go.RowKit

section

variable {P : Program} (w : World)

theorem below_gn {w w' : World} (h : w.grownBy w' none) : Below w.heap.size w w' := ⟨h.os, h.tape, h.output, h.size, fun k hk => h.block k hk (by simp)⟩
theorem run_append_mild (base : Nat) (t ty e : TypeId) (i : TypeInfo) (z : Value) (bytes : Nat) (ht : P.underlying t = some (.slice e)) (hi : P.info? e = some i) (hz : i.zero = some z)
    (hsize : i.size = 1) (hby : i.bytes = bytes) (hzs : z.cells.size = 1)
    (g n cap : Nat) (xs : List Value) (hown : w.ownsRow base e 1 (.slice (some ⟨g, 0, none⟩) n cap) n xs)
    (a : Addr) (m c : Nat) (news : List Value) (hl : news.length = m) (hnews : ∀ j u, news[j]? = some u → w.cell? (a.add j) = some u) (h1 : ∀ u ∈ news, u.oneCell' = true)
    (h63 : n + m ≤ maxLen) (hbytes : (n + m) * bytes ≤ 140737488355328) (hbase : base ≤ w.heap.size) :
    ∃ u w', (Builtin.append_ #[t, t] ty #[.slice (some ⟨g, 0, none⟩) n cap, .slice (some a) m c]).run P w = .ok u w' ∧ w'.ownsRow base e 1 u (n + m) (xs ++ news) ∧ Below base w w' ∧
      (∀ v n' ys, (n' ≤ n ∨ (n' = n + m ∧ ys = xs ++ news)) → w.ownsRow base e 1 v n' ys → w'.ownsRow base e 1 v n' ys) ∧
      ∀ (g2 : Nat) cur2 T2 fz2, fz2 ≠ (0, 0) → w.heap[g2]? = some (.cells cur2 T2 fz2) → w'.heap[g2]? = some (.cells cur2 T2 fz2) := by
  have hown0 := hown
  rcases hown.2 with ⟨h, _⟩ | ⟨g', cap', cur, h, hbg, hg, hnc, hcm, hcs, htake⟩
  · simp at h
  · simp only [Value.slice.injEq, Option.some.injEq, Addr.mk.injEq, and_true, true_and] at h
    obtain ⟨rfl, rfl⟩ := h
    by_cases hroom : n + m ≤ cap
    · obtain ⟨w', hr, ho', hgr⟩ := run_append_fits (P := P) w base t ty e i 1 ht hi hsize g n cap xs hown0 a m c news (by simpa using hl) hnews h1 hroom
      refine ⟨_, w', hr, ho', ⟨hgr.os, hgr.tape, hgr.output, hgr.size, fun k hk => hgr.block k (by omega) (by simp; omega)⟩, ?_, fun g2 cur2 T2 fz2 hf hg2 => ?_⟩
      rotate_left
      · have hlt : g2 < w.heap.size := by
          rcases Nat.lt_or_ge g2 w.heap.size with h | h
          · exact h
          · rw [Array.getElem?_eq_none h] at hg2; cases hg2
        refine (hgr.block g2 hlt (by
          simp only [ne_eq, Option.some.injEq]
          rintro rfl
          rw [hg] at hg2
          injection hg2 with hg2
          injection hg2 with _ _ e3
          exact hf e3.symm)).trans hg2
      intro v n' ys hn' hv
      obtain ⟨hl', hv'⟩ := hv
      rcases hv' with ⟨rfl, h0⟩ | ⟨g2, cap2, cur2, rfl, hb2, hg2, hn2, hc2, hs2, ht2⟩
      · exact ⟨hl', .inl ⟨rfl, h0⟩⟩
      · have hlt : g2 < w.heap.size := Blk.lt (show Blk w g2 e cur2 from hg2)
        by_cases e2 : g2 = g
        · subst e2
          rw [hg] at hg2
          injection hg2 with hg2
          injection hg2 with hg2
          subst hg2
          rcases ho'.2 with ⟨h, _⟩ | ⟨g3, cap3, cur3, h, _, hg3, _, _, hs3, ht3⟩
          · simp at h
          · simp only [Value.slice.injEq, Option.some.injEq, Addr.mk.injEq, and_true, true_and] at h
            obtain ⟨rfl, rfl⟩ := h
            refine ⟨hl', .inr ⟨g2, cap2, cur3, rfl, hb2, hg3, hn2, hc2, by rw [hs3, ← hs2, hcs], ?_⟩⟩
            rcases hn' with hn' | ⟨rfl, rfl⟩
            · rw [← ht2]
              have q1 : cur3.toList.take (n' * 1) = (xs ++ news).take (n' * 1) := by rw [← ht3, List.take_take]; congr 1; omega
              have q2 : cur.toList.take (n' * 1) = xs.take (n' * 1) := by rw [← htake, List.take_take]; congr 1; omega
              rw [q1, q2, List.take_append_of_le_length]
              rw [hown0.1]; omega
            · exact ht3
        · exact ⟨hl', .inr ⟨g2, cap2, cur2, rfl, hb2, (hgr.block g2 hlt (by simp; exact e2)).trans hg2, hn2, hc2, hs2, ht2⟩⟩
    · obtain ⟨u, w', hr, ho', hgr⟩ := run_append_arg_grows (P := P) w t ty e i z 1 bytes ht hi hz hsize hby hzs (by decide) ⟨g, 0, none⟩ n cap xs hown0.1 (fun j u hu => by
          have hj : j < n := by
            have := (List.getElem?_eq_some_iff.1 hu).1
            rw [hown0.1] at this; omega
          have := World.ownsRow.cellAt hown0 j (by omega)
          have ha : (⟨g, 0, none⟩ : Addr).add j = ⟨g, j, none⟩ := by unfold Addr.add; split <;> simp_all
          rw [ha, this, hu]) a m c news (by simpa using hl) hnews (by omega) h63 hbytes
      have hb := below_gn hgr
      refine ⟨u, w', hr, own_base ho' hbase, hb.mono hbase, ?_, fun g2 cur2 T2 fz2 _ hg2 => ?_⟩
      rotate_left
      · have hlt : g2 < w.heap.size := by
          rcases Nat.lt_or_ge g2 w.heap.size with h | h
          · exact h
          · rw [Array.getElem?_eq_none h] at hg2; cases hg2
        exact (hb.block g2 hlt).trans hg2
      intro v n' ys _ hv
      obtain ⟨hl', hv'⟩ := hv
      rcases hv' with ⟨rfl, h0⟩ | ⟨g2, cap2, cur2, rfl, hb2, hg2, hn2, hc2, hs2, ht2⟩
      · exact ⟨hl', .inl ⟨rfl, h0⟩⟩
      · have hlt : g2 < w.heap.size := Blk.lt (show Blk w g2 e cur2 from hg2)
        exact ⟨hl', .inr ⟨g2, cap2, cur2, rfl, hb2, (hb.block g2 hlt).trans hg2, hn2, hc2, hs2, ht2⟩⟩
end

/-- No box and no store among the kinds: what turns of old memory is nothing. -/
theorem mild_of {ks : Kinds} {ops : Array Oper} {i : Nat} {wr w w' : World} (hs : ∀ x ∈ ks, ∃ p F, x.2 = .letter p F) (hb : Below wr.heap.size w w') (hl : ∀ x ∈ ks, x.1 ≠ i → dep ops x.1 i = false → ∀ p F, x.2 = .letter p F → ∀ v, F v w → F v w') : MildK ks ops i wr w w' :=
  ⟨fun h => ⟨hb.os.trans h.os, hb.tape.trans h.tape, hb.output.trans h.output, Nat.le_trans h.size hb.size, fun k hk hS => (hb.block k hk).trans (h.block k hk hS)⟩,
   fun j b T old new hj => (by obtain ⟨p, F, e⟩ := hs _ (kind_mem hj (by simp)); cases e),
   fun j s T z n hj => (by obtain ⟨p, F, e⟩ := hs _ (kind_mem hj (by simp)); cases e),
   fun j f p F hj hji hd v => (by
     obtain ⟨q, G, e⟩ := hs _ (kind_mem hj (by simp))
     injection e with e1 e2 e3
     subst e1
     exact hl _ (kind_mem hj (by simp)) hji hd p F rfl v), hb.size,
   fun j b p F hj => (by obtain ⟨q, G, e⟩ := hs _ (kind_mem hj (by simp)); cases e),
   fun j b hj => (by obtain ⟨q, G, e⟩ := hs _ (kind_mem hj (by simp)); cases e)⟩
/-- Bytes of a string, as a conversion makes them: their block bears a mark. -/
def StrF (B : Nat) (n : Nat) (xs : List Value) (u : Value) (W : World) : Prop := ∃ g cap cur fz, u = .slice (some ⟨g, 0, none⟩) n cap ∧ B ≤ g ∧ fz ≠ (0, 0) ∧ W.heap[g]? = some (.cells cur 5 fz) ∧ cur.toList.take n = xs
theorem str_stab (ks : Kinds) (wr : World) (n : Nat) (xs : List Value) (h : boxes ks = []) : ∀ v w w', Kept ks wr w w' → StrF wr.heap.size n xs v w → StrF wr.heap.size n xs v w' := by
  rintro v w w' hk ⟨g, cap, cur, fz, e, hb, hf, hg, ht⟩
  have hlt : g < w.heap.size := by
    rcases Nat.lt_or_ge g w.heap.size with h | h
    · exact h
    · rw [Array.getElem?_eq_none h] at hg; cases hg
  exact ⟨g, cap, cur, fz, e, hb, hf, (hk.block g hlt hb (fun cs T fr _ => by rw [h]; simp)).trans hg, ht⟩
theorem str_cell {B n : Nat} {xs : List Value} {g cap : Nat} {W : World} (h : StrF B n xs (.slice (some ⟨g, 0, none⟩) n cap) W) : ∀ j u, xs[j]? = some u → W.cell? ((⟨g, 0, none⟩ : Addr).add j) = some u := by
  obtain ⟨g', cap', cur, fz, e, _, _, hg, ht⟩ := h
  simp only [Value.slice.injEq, Option.some.injEq, Addr.mk.injEq, and_true, true_and] at e
  obtain ⟨rfl, rfl⟩ := e
  intro j u hu
  have ha : (⟨g, 0, none⟩ : Addr).add j = ⟨g, j, none⟩ := by unfold Addr.add; split <;> simp_all
  rw [ha, cell_of_row W g j cur 5 fz hg, ← hu, ← ht, List.getElem?_take]
  have hj : j < n := by
    have := (List.getElem?_eq_some_iff.1 hu).1
    rw [← ht, List.length_take] at this; omega
  rw [if_pos hj]
  simp
/-- A conversion of a text makes them. -/
theorem str_made (B : Nat) (s : ByteArray) (w : World) (hB : B ≤ w.heap.size) : ∃ u w', (convert 9 25 (.string s)).run Tryz.prog w = .ok u w' ∧ (∃ g cap, u = .slice (some ⟨g, 0, none⟩) s.size cap) ∧ StrF B s.size (Lib.strCells s) u w' ∧ Below w.heap.size w w' := by
  refine ⟨_, _, Lib.run_convert_string_bytes w 9 25 5 s Tryz.underlying9 Tryz.underlying25 Tryz.underlying5, ⟨_, _, rfl⟩, ⟨w.heap.size, _, _, _, rfl, hB, ?_, Lib.bytesWorld_at_new w _ s, ?_⟩, ?_⟩
  · intro e; injection e with _ e; omega
  · unfold Lib.bytesCells Lib.strCells
    simp only [Array.toList_append, Array.toList_map]
    rw [List.take_append_of_le_length (by simp)]
    rw [List.take_of_length_le (by simp)]
  · exact ⟨rfl, rfl, rfl, by rw [Lib.bytesWorld_size]; omega, fun k hk => Lib.bytesWorld_at_old w _ s k hk⟩
end Go.Proofs.YtigaaidacndeiaaGreatDoor

namespace Go.Proofs.YtigaaidacndeiaaGreatDoor

open Go Go.RowKit

def StrP (n : Nat) (u : Value) : Prop := ∃ g cap, u = .slice (some ⟨g, 0, none⟩) n cap
theorem own_slice {w : World} {B n : Nat} {T : TypeId} {v : Value} {xs : List Value} (h : w.ownsRow B T 1 v n xs) (hn : 0 < n) : ∃ g cap, v = .slice (some ⟨g, 0, none⟩) n cap := by
  rcases h.2 with ⟨_, h0⟩ | ⟨g, cap, cur, e, _⟩
  · omega
  · exact ⟨g, cap, e⟩
theorem exec_convert {P : Program} {o : Oper} {a : Act} (x : Operand) (t u : TypeId) (ho : o.op = .convert t u x) {y v : Value} {w w' : World} (hx : a.eval x = y) (hr : (convert t u y).run P w = .ok v w') : (execOp a.eval o).run P w = .ok (.value v) w' := by
  unfold execOp
  simp only [ho, Sem.run_bind, Sem.run_pure, hx, hr, Result.andThen_ok]
theorem strCells_one (s : ByteArray) : ∀ u ∈ Lib.strCells s, u.oneCell' = true := by
  intro u hu
  unfold Lib.strCells at hu
  obtain ⟨b, _, rfl⟩ := List.mem_map.1 hu
  rfl
set_option maxRecDepth 100000 in
set_option maxHeartbeats 16000000 in
theorem refBytes3_any (c m : Nat) (P : Option Addr) (ps : List Int) (pc : Nat) (s : ByteArray) (D : Option Addr) (dt : List Nat) (dc : Nat) (hne : s.size ≠ 0) (hsz : s.size ≤ 3) (eight : Bool) (w : World) :
    Calls Tryz.prog 40 #[.agg (tkC 3 (c : Int) (m : Int) P ps pc s D dt dc), .bool eight] w fun e w' => ∃ v, e = .returned v ∧ OByt w' w.heap.size v (27 :: (natL s.data.toList ++ [c])) ∧ Below w.heap.size w w' := by
  have HK := Lib.hid (K1.start w 88 (tkC 3 (c : Int) (m : Int) P ps pc s D dt dc))
  have hnil2 : s.toList.isEmpty = false := by rw [ByteArray.toList_eq]; cases h : s.data.toList with | nil => exact absurd (by rw [← dlen, h]; rfl) hne | cons a b => rfl
  have hnil : (s.toList == []) = false := by cases h : s.toList with | nil => rw [h] at hnil2; cases hnil2 | cons a b => rfl
  obtain ⟨i0, hi0, hz0, hz1, hz2⟩ := info_u8
  have HI := Lib.hid (And.intro hi0 (And.intro hz0 (And.intro hz1 hz2)))
  have HN := Lib.hid (And.intro hne hsz)
  have hcs : (Lib.strCells s).length = s.size := Lib.strCells_length s
  clear hi0 hz0 hz1 hz2 hne hsz hnil2
  unfold tkC at *
  go_enter Tryz.func40, Tryz.ntmps40
  go_upto_region 1 with fail
  generalize w.alloc (.cells #[.int .i64 3, .int .u8 (c : Int), .int .u8 (m : Int), .slice P ps.length pc, .string s, .slice D dt.length dc] 88) = w1 at *
  obtain ⟨a0, a1, a2, a3, a4, a5⟩ := six HK.out.1
  go_upto_region 6 with fail
  clear a0 a1 a2 a3 a4 a5 hnil
  have HX := Lib.hid (fun w' (h : Only [] w1 w') => six (h.blk HK.out.1 (by simp)))
  --#1
  refine wp_region_mix_lit (by kernel_rfl) [(0, .letter (SlcP 1) (OwnF 5 w1.heap.size 1 [.int .u8 27])), (3, .letter (StrP s.size) (StrF w1.heap.size s.size (Lib.strCells s))), (4, .letter (SlcP (1 + s.size)) (OwnF 5 w1.heap.size (1 + s.size) ([.int .u8 27] ++ Lib.strCells s))), (7, .letter (SlcP 1) (OwnF 5 w1.heap.size 1 [.int .u8 (c : Int)])), (8, .letter (SlcP (1 + s.size + 1)) (OwnF 5 w1.heap.size (1 + s.size + 1) ([.int .u8 27] ++ Lib.strCells s ++ [.int .u8 (c : Int)])))] (by kernel_rfl) (by kernel_rfl) (by kernel_rfl) (by rfl) (by simp [apartK] <;> omega) (by simp [startK]) (by simp only [List.forall_mem_cons, stabK]; exact ⟨own_stab _ _ _ _ _ rfl, str_stab _ _ _ _ rfl, own_stab _ _ _ _ _ rfl, own_stab _ _ _ _ _ rfl, own_stab _ _ _ _ _ rfl, by simp⟩) (⟨fun i => if i = 3 then .slice (some ⟨0, 0, none⟩) s.size s.size else if i = 4 then .slice none (1 + s.size) (1 + s.size) else if i = 8 then .slice none (1 + s.size + 1) (1 + s.size + 1) else .slice none 1 1, by simp only [List.forall_mem_cons, okK]; exact ⟨⟨_, _, rfl, Nat.le_refl _⟩, ⟨_, _, rfl⟩, ⟨_, _, rfl, Nat.le_refl _⟩, ⟨_, _, rfl, Nat.le_refl _⟩, ⟨_, _, rfl, Nat.le_refl _⟩, by simp⟩⟩) (fun β hβ => ?_)
  have hlet : ∀ x ∈ ([(0, .letter (SlcP 1) (OwnF 5 w1.heap.size 1 [.int .u8 27])), (3, .letter (StrP s.size) (StrF w1.heap.size s.size (Lib.strCells s))), (4, .letter (SlcP (1 + s.size)) (OwnF 5 w1.heap.size (1 + s.size) ([.int .u8 27] ++ Lib.strCells s))), (7, .letter (SlcP 1) (OwnF 5 w1.heap.size 1 [.int .u8 (c : Int)])), (8, .letter (SlcP (1 + s.size + 1)) (OwnF 5 w1.heap.size (1 + s.size + 1) ([.int .u8 27] ++ Lib.strCells s ++ [.int .u8 (c : Int)])))] : Kinds), ∃ p F, x.2 = .letter p F := by
    simp only [List.forall_mem_cons]
    exact ⟨⟨_, _, rfl⟩, ⟨_, _, rfl⟩, ⟨_, _, rfl⟩, ⟨_, _, rfl⟩, ⟨_, _, rfl⟩, by simp⟩
  refine lex_made rfl rfl (fun w' hf => ⟨.slice (some ⟨w'.heap.size, 0, none⟩) 1 1, w'.alloc (.cells #[.int .u8 27] 5), ?_, ⟨_, _, rfl, Nat.le_refl _⟩, World.ownsRow_lit (e := 5) (size := 1) w' #[.int .u8 27] 1 hf.only.size (by unfold maxLen; omega) rfl, (Below.refl _ _).alloc (Nat.le_refl _) _⟩) ?_
  · go_simp
  try simp only [Act.put, List.setIfInBounds_toArray, List.set_cons_zero, List.set_cons_succ]
  repeat (
    refine lex_val (v := ?_) rfl rfl (fun w' hf => ?_) ?_
    rotate_left
    · obtain ⟨a0, a1, a2, a3, a4, a5⟩ := HX.out w' hf.only; go_simp
      try rfl
    try simp only [Act.put, List.setIfInBounds_toArray, List.set_cons_zero, List.set_cons_succ])
  refine lex_made rfl rfl (fun w' hf => ?_) ?_
  · obtain ⟨u, w2, hrun, hp, hF, hb⟩ := str_made w1.heap.size s w' hf.only.size
    exact ⟨u, w2, exec_convert (.tmp 24) _ _ rfl rfl hrun, hp, hF, hb⟩
  try simp only [Act.put, List.setIfInBounds_toArray, List.set_cons_zero, List.set_cons_succ]
  --#2
  refine lex_mild rfl rfl (fun w' hf => ?_) ?_
  · have h0 : OwnF 5 w1.heap.size 1 [.int .u8 27] (β 0) w' := hf.got 0 _ _ rfl (by kernel_rfl)
    have h3 : StrF w1.heap.size s.size (Lib.strCells s) (β 3) w' := hf.got 3 _ _ rfl (by kernel_rfl)
    obtain ⟨g, cap, e0⟩ := own_slice h0 (by omega)
    obtain ⟨g3, cap3, e3⟩ : ∃ g cap, β 3 = .slice (some ⟨g, 0, none⟩) s.size cap := by obtain ⟨g, cap, _, _, e, _⟩ := h3; exact ⟨g, cap, e⟩
    have h0' : w'.ownsRow w1.heap.size 5 1 (.slice (some ⟨g, 0, none⟩) 1 cap) 1 [.int .u8 27] := by rw [← e0]; exact h0
    rw [e3] at h3
    obtain ⟨u, w2, hrun, hown, hbl, hk1, hk2⟩ := run_append_mild (P := Tryz.prog) w' w1.heap.size 25 25 5 i0 (.int .u8 0) 1 Tryz.underlying25 HI.out.1 HI.out.2.1 HI.out.2.2.1 HI.out.2.2.2 rfl g 1 cap _ h0' ⟨g3, 0, none⟩ s.size cap3 (Lib.strCells s) hcs (str_cell h3) (strCells_one s) (by have := HN.out.2; unfold maxLen; omega) (by have := HN.out.2; omega) hf.only.size
    refine ⟨u, w2, exec_append (.tmp 22) (.tmp 25) 25 rfl e0 e3 hrun, own_form hown, hown, mild_of hlet hbl ?_⟩
    simp only [List.forall_mem_cons]
    refine ⟨?_, ?_, ?_, ?_, ?_, by simp⟩
    · intro _ _ p F hF v hv; injection hF with _ _ e; subst e; exact hk1 _ _ _ (.inl (by omega)) hv
    · intro _ _ p F hF v hv; injection hF with _ _ e; subst e
      obtain ⟨g2, c2, cur, fz, ev, hb2, hf2, hg2, ht2⟩ := hv
      exact ⟨g2, c2, cur, fz, ev, hb2, hf2, hk2 _ _ _ _ hf2 hg2, ht2⟩
    · intro h; exact absurd rfl h
    · intro _ _ p F hF v hv; injection hF with _ _ e; subst e; exact hk1 _ _ _ (.inl (by omega)) hv
    · intro _ hd; exact absurd (hd.symm.trans (show _ = true by kernel_rfl)) (by decide)
  try simp only [Act.put, List.setIfInBounds_toArray, List.set_cons_zero, List.set_cons_succ]
  repeat (
    refine lex_val (v := ?_) rfl rfl (fun w' hf => ?_) ?_
    rotate_left
    · obtain ⟨a0, a1, a2, a3, a4, a5⟩ := HX.out w' hf.only; go_simp
      try rfl
    try simp only [Act.put, List.setIfInBounds_toArray, List.set_cons_zero, List.set_cons_succ])
  refine lex_made rfl rfl (fun w' hf => ⟨.slice (some ⟨w'.heap.size, 0, none⟩) 1 1, w'.alloc (.cells #[.int .u8 (c : Int)] 5), ?_, ⟨_, _, rfl, Nat.le_refl _⟩, World.ownsRow_lit (e := 5) (size := 1) w' #[.int .u8 (c : Int)] 1 hf.only.size (by unfold maxLen; omega) rfl, (Below.refl _ _).alloc (Nat.le_refl _) _⟩) ?_
  · go_simp
  try simp only [Act.put, List.setIfInBounds_toArray, List.set_cons_zero, List.set_cons_succ]
  --#3
  refine lex_mild rfl rfl (fun w' hf => ?_) ?_
  · have h4 : OwnF 5 w1.heap.size (1 + s.size) ([.int .u8 27] ++ Lib.strCells s) (β 4) w' := hf.got 4 _ _ rfl (by kernel_rfl)
    have h7 : OwnF 5 w1.heap.size 1 [.int .u8 (c : Int)] (β 7) w' := hf.got 7 _ _ rfl (by kernel_rfl)
    obtain ⟨g, cap, e4⟩ := own_slice h4 (by omega)
    obtain ⟨g7, cap7, e7⟩ := own_slice h7 (by omega)
    have h4' : w'.ownsRow w1.heap.size 5 1 (.slice (some ⟨g, 0, none⟩) (1 + s.size) cap) (1 + s.size) ([.int .u8 27] ++ Lib.strCells s) := by rw [← e4]; exact h4
    have h7' : w'.ownsRow w1.heap.size 5 1 (.slice (some ⟨g7, 0, none⟩) 1 cap7) 1 [.int .u8 (c : Int)] := by rw [← e7]; exact h7
    obtain ⟨u, w2, hrun, hown, hbl, hk1, hk2⟩ := run_append_mild (P := Tryz.prog) w' w1.heap.size 25 25 5 i0 (.int .u8 0) 1 Tryz.underlying25 HI.out.1 HI.out.2.1 HI.out.2.2.1 HI.out.2.2.2 rfl g (1 + s.size) cap _ h4' ⟨g7, 0, none⟩ 1 cap7 [.int .u8 (c : Int)] rfl (fun j u hu => by
      have ha : (⟨g7, 0, none⟩ : Addr).add j = ⟨g7, j, none⟩ := by unfold Addr.add; split <;> simp_all
      have hj : j < 1 := (List.getElem?_eq_some_iff.1 hu).1
      rw [ha, World.ownsRow.cellAt h7' j (by omega), hu]) (by intro u hu; rw [List.mem_singleton.1 hu]; rfl) (by have := HN.out.2; unfold maxLen; omega) (by have := HN.out.2; omega) hf.only.size
    refine ⟨u, w2, exec_append (.tmp 26) (.tmp 29) 25 rfl e4 e7 hrun, own_form hown, hown, mild_of hlet hbl ?_⟩
    simp only [List.forall_mem_cons]
    refine ⟨?_, ?_, ?_, ?_, ?_, by simp⟩
    · intro _ _ p F hF v hv; injection hF with _ _ e; subst e; exact hk1 _ _ _ (.inl (by omega)) hv
    · intro _ _ p F hF v hv; injection hF with _ _ e; subst e
      obtain ⟨g2, c2, cur, fz, ev, hb2, hf2, hg2, ht2⟩ := hv
      exact ⟨g2, c2, cur, fz, ev, hb2, hf2, hk2 _ _ _ _ hf2 hg2, ht2⟩
    · intro _ _ p F hF v hv; injection hF with _ _ e; subst e; exact hk1 _ _ _ (.inl (by omega)) hv
    · intro _ _ p F hF v hv; injection hF with _ _ e; subst e; exact hk1 _ _ _ (.inl (by omega)) hv
    · intro h; exact absurd rfl h
  try simp only [Act.put, List.setIfInBounds_toArray, List.set_cons_zero, List.set_cons_succ]
  repeat (
    refine lex_val (v := ?_) rfl rfl (fun w' hf => ?_) ?_
    rotate_left
    · go_simp
      try rfl
    try simp only [Act.put, List.setIfInBounds_toArray, List.set_cons_zero, List.set_cons_succ])
  refine lex_nil fun w2 he => ?_
  have ho : OwnF 5 w1.heap.size (1 + s.size + 1) ([.int .u8 27] ++ Lib.strCells s ++ [.int .u8 (c : Int)]) (β 8) w2 := (he.facts 8).2
  have HB := Lib.hid (HK.out.2.trans (he.only.below0.mono HK.out.2.size))
  have HO : Hid (OByt w2 w.heap.size (β 8) (27 :: (natL s.data.toList ++ [c]))) := Lib.hid (own_base (by
    have hl : (27 :: (natL s.data.toList ++ [c])).length = 1 + s.size + 1 := by simp [natL_len]; omega
    rw [hl]
    have := ho
    unfold OwnF at this
    rw [Lib.strCells] at this
    simpa [natL, Function.comp_def] using this) HK.out.2.size)
  clear he ho hβ
  generalize β 8 = v8 at *
  --#4
  go_wp2_with fail
  go_ret
  exact ⟨_, rfl, HO.out, HB.out⟩
end Go.Proofs.YtigaaidacndeiaaGreatDoor

namespace Go.Proofs.YtigaaidacndeiaaGreatDoor

open Go Go.RowKit

theorem str_world (W : World) (s : ByteArray) : Below W.heap.size W (Lib.bytesWorld W 5 s) ∧ RByt (Lib.bytesWorld W 5 s) (some ⟨W.heap.size, 0, none⟩) (natL s.data.toList) := by
  obtain ⟨u, w', hr, _, hF, hb⟩ := str_made W.heap.size s W (Nat.le_refl _)
  rw [Lib.run_convert_string_bytes W 9 25 5 s Tryz.underlying9 Tryz.underlying25 Tryz.underlying5] at hr
  injection hr with e1 e2
  subst e1 e2
  refine ⟨hb, by simp, fun hn => ⟨⟨W.heap.size, 0, none⟩, rfl, by rw [Lib.bytesWorld_size]; simp, fun j u hu => ?_⟩⟩
  refine str_cell hF j u ?_
  rw [strCells_nat]
  exact hu
/-- The token of the call's own, and the bytes so far. -/
def KR (w : World) (x : Array Value) (v : Value) (l : List Nat) (W : World) : Prop := Blk W w.heap.size 88 x ∧ Below w.heap.size w W ∧ OByt W (w.heap.size + 1) v l ∧ w.heap.size + 1 ≤ W.heap.size
theorem KR.next {w W W' : World} {x : Array Value} {v : Value} {l : List Nat} (h : KR w x v l W) (hb : Below W.heap.size W W') : KR w x v l W' := ⟨h.1.next hb, h.2.1.trans (hb.mono h.2.1.size), h.2.2.1.next hb, Nat.le_trans h.2.2.2 hb.size⟩
theorem KR.append {w W W' : World} {x : Array Value} {v v' : Value} {l r : List Nat} (h : KR w x v l W) (ho : W'.ownsRow (w.heap.size + 1) 5 1 v' (l.length + r.length) (l.map (fun (n : Nat) => Value.int .u8 (n : Int)) ++ r.map (fun (n : Nat) => Value.int .u8 (n : Int)))) (hg : W.grownBy W' v.ownBlock) : KR w x v' (l ++ r) W' :=
  ⟨h.1.below (below_str h.2.2.1 h.2.2.2 hg) (by omega), h.2.1.trans ((below_str h.2.2.1 h.2.2.2 hg).mono (by omega)), by unfold OByt; rw [List.length_append, List.map_append]; exact ho, Nat.le_trans h.2.2.2 (below_str h.2.2.1 h.2.2.2 hg).size⟩
theorem ko_start {w w2 w3 : World} {x : Array Value} {v : Value} {l : List Nat} (h : K1 w 88 x w2) (ho : OByt w3 w2.heap.size v l) (hb : Below w2.heap.size w2 w3) : KR w x v l w3 :=
  ⟨h.1.next hb, h.2.trans (hb.mono h.2.size), own_base (obyt_own ho) (by have := Blk.lt h.1; omega), by have := Blk.lt h.1; have := hb.size; omega⟩

theorem KR.appendN {w W W' : World} {x : Array Value} {v v' : Value} {l r : List Nat} {n : Nat} (hn : r.length = n) (h : KR w x v l W) (ho : W'.ownsRow (w.heap.size + 1) 5 1 v' (l.length + n) (l.map (fun (n : Nat) => Value.int .u8 (n : Int)) ++ r.map (fun (n : Nat) => Value.int .u8 (n : Int)))) (hg : W.grownBy W' v.ownBlock) : KR w x v' (l ++ r) W' := by
  subst hn; exact KR.append h ho hg
theorem str_reads (W : World) (s : ByteArray) : Reads (Lib.bytesWorld W 5 s) (Lib.bytesWorld W 5 s).heap.size 1 (some ⟨W.heap.size, 0, none⟩) s.size ((natL s.data.toList).map fun (n : Nat) => Value.int .u8 (n : Int)) := by
  have h := (str_world W s).2
  unfold RByt at h
  rw [natL_len, dlen] at h
  exact h
theorem lit_reads (W : World) (n : Nat) : RByt (W.alloc (.cells #[.int .u8 (n : Int)] 5)) (some ⟨W.heap.size, 0, none⟩) [n] := Reads.of_own (World.ownsRow_lit (e := 5) (size := 1) W #[.int .u8 (n : Int)] 1 (Nat.le_refl _) (by unfold maxLen; omega) rfl)

set_option maxRecDepth 100000 in
set_option maxHeartbeats 16000000 in
set_option linter.unusedSimpArgs false in
set_option linter.unusedVariables false in
theorem refBytes_any (k : Int) (c m : Nat) (P : Option Addr) (ps : List Int) (pc : Nat) (s : ByteArray) (D : Option Addr) (dt : List Nat) (dc : Nat) (hz : checkP k c m ps s dt = 0) (hc : c < 256) (hp : ps.length ≤ maxLen) (hd : dt.length ≤ maxLen) (eight : Bool) (w : World) (hr : RInts w P ps) (hb : RByt w D dt) :
    Calls Tryz.prog 40 #[.agg (tkC k (c : Int) (m : Int) P ps pc s D dt dc), .bool eight] w fun e w' => ∃ v, e = .returned v ∧ OByt w' w.heap.size v (bytesL k c m ps s dt eight) ∧ Below w.heap.size w w' := by
  obtain ⟨z1, z2, z3, z4, z5, _, _, _, _⟩ := check_zero hz
  have hV := tk_valid hz
  have HR := Lib.hid hr; have HD := Lib.hid hb
  have HK := Lib.hid (K1.start w 88 (tkC k (c : Int) (m : Int) P ps pc s D dt dc))
  have HPr := Lib.hid (fun n h W => refPair_any n h eight W)
  have HFm := Lib.hid (fun W h => refFormat_any P pc ps hp W h)
  have HLl := Lib.hid (fun n => lead_len n eight)
  have hfl := fmt_len ps
  obtain ⟨i0, hi0, hz0, hz1, hz2⟩ := info_u8
  have HI := Lib.hid hi0; have HZ0 := Lib.hid hz0; have HZ1 := Lib.hid hz1; have HZ2 := Lib.hid hz2
  clear hr hb hz hi0 hz0 hz1 hz2 hp hd
  have hks : k = 1 ∨ k = 2 ∨ k = 3 ∨ k = 4 ∨ k = 5 ∨ k = 6 ∨ k = 7 ∨ k = 8 ∨ k = 9 := by omega
  have HS3 := Lib.hid z3; have HD5 := Lib.hid z5; have HFL := Lib.hid hfl
  clear z1 z2 z3 z4 z5 hfl
  have hcv : ∀ (W : World) (s : ByteArray), (convert 9 25 (.string s)).run Tryz.prog W = .ok (.slice (some ⟨W.heap.size, 0, none⟩) s.size (grownCap W s.size 0 5)) (Lib.bytesWorld W 5 s) := fun W s => Lib.run_convert_string_bytes W 9 25 5 s Tryz.underlying9 Tryz.underlying25 Tryz.underlying5
  have HCV := Lib.hid hcv
  clear hcv
  rcases hks with rfl | rfl | rfl | rfl | rfl | rfl | rfl | rfl | rfl
  · skip
    show Calls _ _ _ _ fun e w' => ∃ v, e = .returned v ∧ OByt w' w.heap.size v [c] ∧ _
    unfold tkC at *
    go_enter Tryz.func40, Tryz.ntmps40
    go_upto_region 1 with fail
    generalize w.alloc (.cells #[.int .i64 1, .int .u8 (c : Int), .int .u8 (m : Int), .slice P ps.length pc, .string s, .slice D dt.length dc] 88) = w1 at *
    obtain ⟨a0, a1, a2, a3, a4, a5⟩ := six HK.out.1
    have HO : Hid (OByt (w1.alloc (.cells #[.int .u8 (c : Int)] 5)) w.heap.size (.slice (some ⟨w1.heap.size, 0, none⟩) 1 1) [c]) := Lib.hid (World.ownsRow_lit (e := 5) (size := 1) w1 #[.int .u8 (c : Int)] 1 HK.out.2.size (by unfold maxLen; omega) rfl)
    have HB := Lib.hid (HK.out.2.alloc HK.out.2.size (.cells #[.int .u8 (c : Int)] 5))
    go_wp2_with fail
    go_ret
    exact ⟨_, rfl, HO.out, HB.out⟩
  · skip
    show Calls _ _ _ _ fun e w' => ∃ v, e = .returned v ∧ OByt w' w.heap.size v [c] ∧ _
    unfold tkC at *
    go_enter Tryz.func40, Tryz.ntmps40
    go_upto_region 1 with fail
    generalize w.alloc (.cells #[.int .i64 2, .int .u8 (c : Int), .int .u8 (m : Int), .slice P ps.length pc, .string s, .slice D dt.length dc] 88) = w1 at *
    obtain ⟨a0, a1, a2, a3, a4, a5⟩ := six HK.out.1
    have HO : Hid (OByt (w1.alloc (.cells #[.int .u8 (c : Int)] 5)) w.heap.size (.slice (some ⟨w1.heap.size, 0, none⟩) 1 1) [c]) := Lib.hid (World.ownsRow_lit (e := 5) (size := 1) w1 #[.int .u8 (c : Int)] 1 HK.out.2.size (by unfold maxLen; omega) rfl)
    have HB := Lib.hid (HK.out.2.alloc HK.out.2.size (.cells #[.int .u8 (c : Int)] 5))
    go_wp2_with fail
    go_ret
    exact ⟨_, rfl, HO.out, HB.out⟩
  · skip
    have hv3 : m = 0 ∧ ps = [] := by
      rcases hV with h | h | h | h | h
      · have := h.1; omega
      · exact ⟨h.2.2.2.2.2.1, h.2.2.2.2.2.2.1⟩
      · have := h.1; omega
      · have := h.1; omega
      · have := h.1; omega
    by_cases hs : s.size = 0
    · have e : bytesL 3 c m ps s dt eight = leadL c eight := by show escL c m ps s eight = _; unfold escL; rw [if_pos hs]
      rw [e]
      have hnil : s.toList = [] := by rw [ByteArray.toList_eq]; exact List.length_eq_zero_iff.1 hs
      clear e hs hV hv3
      have HC := Lib.hid (fun W => HPr.out c hc W)
      unfold tkC at *
      go_enter Tryz.func40, Tryz.ntmps40
      go_upto_region 1 with fail
      generalize w.alloc (.cells #[.int .i64 3, .int .u8 (c : Int), .int .u8 (m : Int), .slice P ps.length pc, .string s, .slice D dt.length dc] 88) = w1 at *
      obtain ⟨a0, a1, a2, a3, a4, a5⟩ := six HK.out.1
      go_wp2_with fail
      refine (HC.out _).mono ?_
      rintro e w2 ⟨v, rfl, ho, hb2⟩
      have HO := Lib.hid (own_base (obyt_own ho) (b' := w.heap.size) HK.out.2.size)
      have HB := Lib.hid (HK.out.2.trans (hb2.mono HK.out.2.size))
      clear ho hb2 a0 a1 a2 a3 a4 a5
      go_wp2_with fail
      go_ret
      exact ⟨v, rfl, HO.out, HB.out⟩
    · have e : bytesL 3 c m ps s dt eight = 27 :: (natL s.data.toList ++ [c]) := by
        show escL c m ps s eight = _
        unfold escL signsL
        rw [if_neg hs, if_pos hv3.1, hv3.2, fmt_none]
        rfl
      rw [e]
      exact refBytes3_any c m P ps pc s D dt dc hs HS3.out eight w
  · skip
    have e : bytesL 4 c m ps s dt eight = leadL 91 eight ++ signsL c m ps s := by
      show leadL 91 eight ++ signsL c m ps s ++ [] = _
      simp
    rw [e]
    clear e hV
    have HB := Lib.hid (fun (W : World) => (begins_any 4 (by omega) W : Calls Tryz.prog 65 #[.int .i64 4] W fun e w' => e = .returned (.int .u8 91) ∧ W = w'))
    have HC : Hid (∀ W, Calls Tryz.prog 64 #[.int .u8 91, .bool eight] W fun e w' => ∃ v, e = .returned v ∧ OByt w' W.heap.size v (leadL 91 eight) ∧ Below W.heap.size W w') := Lib.hid (fun W => HPr.out 91 (by decide) W)
    have HC2 : Hid (∀ W, Calls Tryz.prog 64 #[.int .u8 92, .bool eight] W fun e w' => ∃ v, e = .returned v ∧ OByt w' W.heap.size v (leadL 92 eight) ∧ Below W.heap.size W w') := Lib.hid (fun W => HPr.out 92 (by decide) W)
    have H1l := Lib.hid (HLl.out 91)
    have H2l := Lib.hid (HLl.out 92)
    clear HPr HLl
    unfold signsL
    generalize leadL 91 eight = l1 at *
    generalize leadL 92 eight = l92 at *
    by_cases hm : m = 0
    · rw [if_pos hm]
      have hmf : ((m : Int) != 0) = false := by simp; exact hm
      clear hm
      unfold tkC at *
      go_enter Tryz.func40, Tryz.ntmps40
      go_upto_region 1 with fail
      generalize w.alloc (.cells #[.int .i64 4, .int .u8 (c : Int), .int .u8 (m : Int), .slice P ps.length pc, .string s, .slice D dt.length dc] 88) = w1 at *
      obtain ⟨a0, a1, a2, a3, a4, a5⟩ := six HK.out.1
      go_wp2_with fail
      refine (HB.out _).mono ?_
      rintro e w2 ⟨rfl, rfl⟩
      go_wp2_with fail
      refine (HC.out _).mono ?_
      rintro e w3 ⟨v3, rfl, ho, hb3⟩
      have HK3 := Lib.hid (ko_start HK.out ho hb3)
      clear ho hb3 a0 a1 a2 a3 a4 a5 HK HB HC
      obtain ⟨a0, a1, a2, a3, a4, a5⟩ := six HK3.out.1
      go_upto_region 11 with fail
      have HK4 := HK3
      clear a0 a1 a2 a3 a4 a5
      obtain ⟨a0, a1, a2, a3, a4, a5⟩ := six HK4.out.1
      go_wp2_with fail
      refine (HFm.out _ (HR.out.next HK4.out.2.1)).mono ?_
      rintro e w5 ⟨rfl, hb5⟩
      have HK5 := Lib.hid (KR.next HK4.out hb5)
      clear hb5 a0 a1 a2 a3 a4 a5
      have hcv1 := HCV.out w5 (bytesOf (fmtL ps))
      go_upto_region 12 with (at_builtin; have HK5a := Lib.hid (KR.next HK5.out (str_world w5 (bytesOf (fmtL ps))).1); refine wpList_append_any _ rfl _ _ 25 rfl (w.heap.size + 1) 5 i0 _ 1 1 Tryz.underlying25 HI.out HZ0.out HZ1.out HZ2.out rfl (by decide) _ _ _ rfl (obyt_own HK5a.out.2.2.1) _ (some ⟨w5.heap.size, 0, none⟩) (bytesOf (fmtL ps)).size _ _ rfl (str_reads w5 (bytesOf (fmtL ps))) (oby_one (natL (bytesOf (fmtL ps)).data.toList)) (by have := H1l.out; have := H2l.out; have := HFL.out; have := HS3.out; have := HD5.out; have := bytesOf_size (fmtL ps); unfold maxLen; simp [natL_len, dlen]; omega) (by have := H1l.out; have := H2l.out; have := HFL.out; have := HS3.out; have := HD5.out; have := bytesOf_size (fmtL ps); simp [natL_len, dlen]; omega) HK5a.out.2.2.2 ?_; intro v6 w6 hown' hg' hat'; have HK6 := Lib.hid (KR.appendN (by simp [natL_len, dlen]) HK5a.out hown' hg'); clear hown' hg' hat')
      clear hcv1
      obtain ⟨a0, a1, a2, a3, a4, a5⟩ := six HK6.out.1
      have hcv1 := HCV.out w6 s
      go_upto_region 13 with (at_builtin; have HK6a := Lib.hid (KR.next HK6.out (str_world w6 s).1); refine wpList_append_any _ rfl _ _ 25 rfl (w.heap.size + 1) 5 i0 _ 1 1 Tryz.underlying25 HI.out HZ0.out HZ1.out HZ2.out rfl (by decide) _ _ _ rfl (obyt_own HK6a.out.2.2.1) _ (some ⟨w6.heap.size, 0, none⟩) s.size _ _ rfl (str_reads w6 s) (oby_one (natL s.data.toList)) (by have := H1l.out; have := H2l.out; have := HFL.out; have := HS3.out; have := HD5.out; have := bytesOf_size (fmtL ps); unfold maxLen; simp [natL_len, dlen]; omega) (by have := H1l.out; have := H2l.out; have := HFL.out; have := HS3.out; have := HD5.out; have := bytesOf_size (fmtL ps); simp [natL_len, dlen]; omega) HK6a.out.2.2.2 ?_; intro v9 w9 hown' hg' hat'; have HK9 := Lib.hid (KR.appendN (by simp [natL_len, dlen]) HK6a.out hown' hg'); clear hown' hg' hat')
      clear hcv1 a0 a1 a2 a3 a4 a5
      obtain ⟨a0, a1, a2, a3, a4, a5⟩ := six HK9.out.1
      go_upto_region 14 with (at_builtin; have HK9a := Lib.hid (KR.next HK9.out ((Below.refl _ _).alloc (Nat.le_refl _) (.cells #[.int .u8 (c : Int)] 5))); refine wpList_append_any _ rfl _ _ 25 rfl (w.heap.size + 1) 5 i0 _ 1 1 Tryz.underlying25 HI.out HZ0.out HZ1.out HZ2.out rfl (by decide) _ _ _ rfl (obyt_own HK9a.out.2.2.1) _ (some ⟨w9.heap.size, 0, none⟩) 1 1 _ rfl (lit_reads w9 c) (oby_one [c]) (by have := H1l.out; have := H2l.out; have := HFL.out; have := HS3.out; have := HD5.out; have := bytesOf_size (fmtL ps); unfold maxLen; simp [natL_len, dlen]; omega) (by have := H1l.out; have := H2l.out; have := HFL.out; have := HS3.out; have := HD5.out; have := bytesOf_size (fmtL ps); simp [natL_len, dlen]; omega) HK9a.out.2.2.2 ?_; intro v10 w10 hown' hg' hat'; have HK10 := Lib.hid (KR.appendN (by simp [natL_len, dlen]) HK9a.out hown' hg'); clear hown' hg' hat')
      clear a0 a1 a2 a3 a4 a5
      obtain ⟨a0, a1, a2, a3, a4, a5⟩ := six HK10.out.1
      go_wp2_with fail
      go_ret
      exact ⟨_, rfl, own_base (obyt_own (by have := HK10.out.2.2.1; rw [bytesOf_list] at this; simpa using this)) (by omega), HK10.out.2.1⟩
    · rw [if_neg hm]
      have hmf : ((m : Int) != 0) = true := by simp; omega
      clear hm
      unfold tkC at *
      go_enter Tryz.func40, Tryz.ntmps40
      go_upto_region 1 with fail
      generalize w.alloc (.cells #[.int .i64 4, .int .u8 (c : Int), .int .u8 (m : Int), .slice P ps.length pc, .string s, .slice D dt.length dc] 88) = w1 at *
      obtain ⟨a0, a1, a2, a3, a4, a5⟩ := six HK.out.1
      go_wp2_with fail
      refine (HB.out _).mono ?_
      rintro e w2 ⟨rfl, rfl⟩
      go_wp2_with fail
      refine (HC.out _).mono ?_
      rintro e w3 ⟨v3, rfl, ho, hb3⟩
      have HK3 := Lib.hid (ko_start HK.out ho hb3)
      clear ho hb3 a0 a1 a2 a3 a4 a5 HK HB HC
      obtain ⟨a0, a1, a2, a3, a4, a5⟩ := six HK3.out.1
      go_upto_region 11 with (at_builtin; have HK3a := Lib.hid (KR.next HK3.out ((Below.refl _ _).alloc (Nat.le_refl _) (.cells #[.int .u8 (m : Int)] 5))); refine wpList_append_any _ rfl _ _ 25 rfl (w.heap.size + 1) 5 i0 _ 1 1 Tryz.underlying25 HI.out HZ0.out HZ1.out HZ2.out rfl (by decide) _ _ _ rfl (obyt_own HK3a.out.2.2.1) _ (some ⟨w3.heap.size, 0, none⟩) 1 1 _ rfl (lit_reads w3 m) (oby_one [m]) (by have := H1l.out; have := H2l.out; have := HFL.out; have := HS3.out; have := HD5.out; have := bytesOf_size (fmtL ps); unfold maxLen; simp [natL_len, dlen]; omega) (by have := H1l.out; have := H2l.out; have := HFL.out; have := HS3.out; have := HD5.out; have := bytesOf_size (fmtL ps); simp [natL_len, dlen]; omega) HK3a.out.2.2.2 ?_; intro v4 w4 hown' hg' hat'; have HK4 := Lib.hid (KR.appendN (by simp [natL_len, dlen]) HK3a.out hown' hg'); clear hown' hg' hat')
      clear a0 a1 a2 a3 a4 a5
      obtain ⟨a0, a1, a2, a3, a4, a5⟩ := six HK4.out.1
      go_wp2_with fail
      refine (HFm.out _ (HR.out.next HK4.out.2.1)).mono ?_
      rintro e w5 ⟨rfl, hb5⟩
      have HK5 := Lib.hid (KR.next HK4.out hb5)
      clear hb5 a0 a1 a2 a3 a4 a5
      have hcv1 := HCV.out w5 (bytesOf (fmtL ps))
      go_upto_region 12 with (at_builtin; have HK5a := Lib.hid (KR.next HK5.out (str_world w5 (bytesOf (fmtL ps))).1); refine wpList_append_any _ rfl _ _ 25 rfl (w.heap.size + 1) 5 i0 _ 1 1 Tryz.underlying25 HI.out HZ0.out HZ1.out HZ2.out rfl (by decide) _ _ _ rfl (obyt_own HK5a.out.2.2.1) _ (some ⟨w5.heap.size, 0, none⟩) (bytesOf (fmtL ps)).size _ _ rfl (str_reads w5 (bytesOf (fmtL ps))) (oby_one (natL (bytesOf (fmtL ps)).data.toList)) (by have := H1l.out; have := H2l.out; have := HFL.out; have := HS3.out; have := HD5.out; have := bytesOf_size (fmtL ps); unfold maxLen; simp [natL_len, dlen]; omega) (by have := H1l.out; have := H2l.out; have := HFL.out; have := HS3.out; have := HD5.out; have := bytesOf_size (fmtL ps); simp [natL_len, dlen]; omega) HK5a.out.2.2.2 ?_; intro v6 w6 hown' hg' hat'; have HK6 := Lib.hid (KR.appendN (by simp [natL_len, dlen]) HK5a.out hown' hg'); clear hown' hg' hat')
      clear hcv1
      obtain ⟨a0, a1, a2, a3, a4, a5⟩ := six HK6.out.1
      have hcv1 := HCV.out w6 s
      go_upto_region 13 with (at_builtin; have HK6a := Lib.hid (KR.next HK6.out (str_world w6 s).1); refine wpList_append_any _ rfl _ _ 25 rfl (w.heap.size + 1) 5 i0 _ 1 1 Tryz.underlying25 HI.out HZ0.out HZ1.out HZ2.out rfl (by decide) _ _ _ rfl (obyt_own HK6a.out.2.2.1) _ (some ⟨w6.heap.size, 0, none⟩) s.size _ _ rfl (str_reads w6 s) (oby_one (natL s.data.toList)) (by have := H1l.out; have := H2l.out; have := HFL.out; have := HS3.out; have := HD5.out; have := bytesOf_size (fmtL ps); unfold maxLen; simp [natL_len, dlen]; omega) (by have := H1l.out; have := H2l.out; have := HFL.out; have := HS3.out; have := HD5.out; have := bytesOf_size (fmtL ps); simp [natL_len, dlen]; omega) HK6a.out.2.2.2 ?_; intro v9 w9 hown' hg' hat'; have HK9 := Lib.hid (KR.appendN (by simp [natL_len, dlen]) HK6a.out hown' hg'); clear hown' hg' hat')
      clear hcv1 a0 a1 a2 a3 a4 a5
      obtain ⟨a0, a1, a2, a3, a4, a5⟩ := six HK9.out.1
      go_upto_region 14 with (at_builtin; have HK9a := Lib.hid (KR.next HK9.out ((Below.refl _ _).alloc (Nat.le_refl _) (.cells #[.int .u8 (c : Int)] 5))); refine wpList_append_any _ rfl _ _ 25 rfl (w.heap.size + 1) 5 i0 _ 1 1 Tryz.underlying25 HI.out HZ0.out HZ1.out HZ2.out rfl (by decide) _ _ _ rfl (obyt_own HK9a.out.2.2.1) _ (some ⟨w9.heap.size, 0, none⟩) 1 1 _ rfl (lit_reads w9 c) (oby_one [c]) (by have := H1l.out; have := H2l.out; have := HFL.out; have := HS3.out; have := HD5.out; have := bytesOf_size (fmtL ps); unfold maxLen; simp [natL_len, dlen]; omega) (by have := H1l.out; have := H2l.out; have := HFL.out; have := HS3.out; have := HD5.out; have := bytesOf_size (fmtL ps); simp [natL_len, dlen]; omega) HK9a.out.2.2.2 ?_; intro v10 w10 hown' hg' hat'; have HK10 := Lib.hid (KR.appendN (by simp [natL_len, dlen]) HK9a.out hown' hg'); clear hown' hg' hat')
      clear a0 a1 a2 a3 a4 a5
      obtain ⟨a0, a1, a2, a3, a4, a5⟩ := six HK10.out.1
      go_wp2_with fail
      go_ret
      exact ⟨_, rfl, own_base (obyt_own (by have := HK10.out.2.2.1; rw [bytesOf_list] at this; simpa using this)) (by omega), HK10.out.2.1⟩
  · skip
    have e : bytesL 5 c m ps s dt eight = leadL 80 eight ++ signsL c m ps s ++ (dt ++ leadL 92 eight) := by
      show leadL 80 eight ++ signsL c m ps s ++ (dt ++ leadL 92 eight) = _
      simp
    rw [e]
    clear e hV
    have HB := Lib.hid (fun (W : World) => (begins_any 5 (by omega) W : Calls Tryz.prog 65 #[.int .i64 5] W fun e w' => e = .returned (.int .u8 80) ∧ W = w'))
    have HC : Hid (∀ W, Calls Tryz.prog 64 #[.int .u8 80, .bool eight] W fun e w' => ∃ v, e = .returned v ∧ OByt w' W.heap.size v (leadL 80 eight) ∧ Below W.heap.size W w') := Lib.hid (fun W => HPr.out 80 (by decide) W)
    have HC2 : Hid (∀ W, Calls Tryz.prog 64 #[.int .u8 92, .bool eight] W fun e w' => ∃ v, e = .returned v ∧ OByt w' W.heap.size v (leadL 92 eight) ∧ Below W.heap.size W w') := Lib.hid (fun W => HPr.out 92 (by decide) W)
    have H1l := Lib.hid (HLl.out 80)
    have H2l := Lib.hid (HLl.out 92)
    clear HPr HLl
    unfold signsL
    generalize leadL 80 eight = l1 at *
    generalize leadL 92 eight = l92 at *
    by_cases hm : m = 0
    · rw [if_pos hm]
      have hmf : ((m : Int) != 0) = false := by simp; exact hm
      clear hm
      unfold tkC at *
      go_enter Tryz.func40, Tryz.ntmps40
      go_upto_region 1 with fail
      generalize w.alloc (.cells #[.int .i64 5, .int .u8 (c : Int), .int .u8 (m : Int), .slice P ps.length pc, .string s, .slice D dt.length dc] 88) = w1 at *
      obtain ⟨a0, a1, a2, a3, a4, a5⟩ := six HK.out.1
      go_wp2_with fail
      refine (HB.out _).mono ?_
      rintro e w2 ⟨rfl, rfl⟩
      go_wp2_with fail
      refine (HC.out _).mono ?_
      rintro e w3 ⟨v3, rfl, ho, hb3⟩
      have HK3 := Lib.hid (ko_start HK.out ho hb3)
      clear ho hb3 a0 a1 a2 a3 a4 a5 HK HB HC
      obtain ⟨a0, a1, a2, a3, a4, a5⟩ := six HK3.out.1
      go_upto_region 11 with fail
      have HK4 := HK3
      clear a0 a1 a2 a3 a4 a5
      obtain ⟨a0, a1, a2, a3, a4, a5⟩ := six HK4.out.1
      go_wp2_with fail
      refine (HFm.out _ (HR.out.next HK4.out.2.1)).mono ?_
      rintro e w5 ⟨rfl, hb5⟩
      have HK5 := Lib.hid (KR.next HK4.out hb5)
      clear hb5 a0 a1 a2 a3 a4 a5
      have hcv1 := HCV.out w5 (bytesOf (fmtL ps))
      go_upto_region 12 with (at_builtin; have HK5a := Lib.hid (KR.next HK5.out (str_world w5 (bytesOf (fmtL ps))).1); refine wpList_append_any _ rfl _ _ 25 rfl (w.heap.size + 1) 5 i0 _ 1 1 Tryz.underlying25 HI.out HZ0.out HZ1.out HZ2.out rfl (by decide) _ _ _ rfl (obyt_own HK5a.out.2.2.1) _ (some ⟨w5.heap.size, 0, none⟩) (bytesOf (fmtL ps)).size _ _ rfl (str_reads w5 (bytesOf (fmtL ps))) (oby_one (natL (bytesOf (fmtL ps)).data.toList)) (by have := H1l.out; have := H2l.out; have := HFL.out; have := HS3.out; have := HD5.out; have := bytesOf_size (fmtL ps); unfold maxLen; simp [natL_len, dlen]; omega) (by have := H1l.out; have := H2l.out; have := HFL.out; have := HS3.out; have := HD5.out; have := bytesOf_size (fmtL ps); simp [natL_len, dlen]; omega) HK5a.out.2.2.2 ?_; intro v6 w6 hown' hg' hat'; have HK6 := Lib.hid (KR.appendN (by simp [natL_len, dlen]) HK5a.out hown' hg'); clear hown' hg' hat')
      clear hcv1
      obtain ⟨a0, a1, a2, a3, a4, a5⟩ := six HK6.out.1
      have hcv1 := HCV.out w6 s
      go_upto_region 13 with (at_builtin; have HK6a := Lib.hid (KR.next HK6.out (str_world w6 s).1); refine wpList_append_any _ rfl _ _ 25 rfl (w.heap.size + 1) 5 i0 _ 1 1 Tryz.underlying25 HI.out HZ0.out HZ1.out HZ2.out rfl (by decide) _ _ _ rfl (obyt_own HK6a.out.2.2.1) _ (some ⟨w6.heap.size, 0, none⟩) s.size _ _ rfl (str_reads w6 s) (oby_one (natL s.data.toList)) (by have := H1l.out; have := H2l.out; have := HFL.out; have := HS3.out; have := HD5.out; have := bytesOf_size (fmtL ps); unfold maxLen; simp [natL_len, dlen]; omega) (by have := H1l.out; have := H2l.out; have := HFL.out; have := HS3.out; have := HD5.out; have := bytesOf_size (fmtL ps); simp [natL_len, dlen]; omega) HK6a.out.2.2.2 ?_; intro v9 w9 hown' hg' hat'; have HK9 := Lib.hid (KR.appendN (by simp [natL_len, dlen]) HK6a.out hown' hg'); clear hown' hg' hat')
      clear hcv1 a0 a1 a2 a3 a4 a5
      obtain ⟨a0, a1, a2, a3, a4, a5⟩ := six HK9.out.1
      go_upto_region 14 with (at_builtin; have HK9a := Lib.hid (KR.next HK9.out ((Below.refl _ _).alloc (Nat.le_refl _) (.cells #[.int .u8 (c : Int)] 5))); refine wpList_append_any _ rfl _ _ 25 rfl (w.heap.size + 1) 5 i0 _ 1 1 Tryz.underlying25 HI.out HZ0.out HZ1.out HZ2.out rfl (by decide) _ _ _ rfl (obyt_own HK9a.out.2.2.1) _ (some ⟨w9.heap.size, 0, none⟩) 1 1 _ rfl (lit_reads w9 c) (oby_one [c]) (by have := H1l.out; have := H2l.out; have := HFL.out; have := HS3.out; have := HD5.out; have := bytesOf_size (fmtL ps); unfold maxLen; simp [natL_len, dlen]; omega) (by have := H1l.out; have := H2l.out; have := HFL.out; have := HS3.out; have := HD5.out; have := bytesOf_size (fmtL ps); simp [natL_len, dlen]; omega) HK9a.out.2.2.2 ?_; intro v10 w10 hown' hg' hat'; have HK10 := Lib.hid (KR.appendN (by simp [natL_len, dlen]) HK9a.out hown' hg'); clear hown' hg' hat')
      clear a0 a1 a2 a3 a4 a5
      obtain ⟨a0, a1, a2, a3, a4, a5⟩ := six HK10.out.1
      go_upto_region 16 with (at_builtin; refine wpList_append_any _ rfl _ _ 25 rfl (w.heap.size + 1) 5 i0 _ 1 1 Tryz.underlying25 HI.out HZ0.out HZ1.out HZ2.out rfl (by decide) _ _ _ rfl (obyt_own HK10.out.2.2.1) _ D dt.length dc _ rfl (HD.out.next HK10.out.2.1) (oby_one dt) (by have := H1l.out; have := H2l.out; have := HFL.out; have := HS3.out; have := HD5.out; have := bytesOf_size (fmtL ps); unfold maxLen; simp [natL_len, dlen]; omega) (by have := H1l.out; have := H2l.out; have := HFL.out; have := HS3.out; have := HD5.out; have := bytesOf_size (fmtL ps); simp [natL_len, dlen]; omega) HK10.out.2.2.2 ?_; intro v' W' hown' hg' hat'; have HK6 := Lib.hid (KR.append HK10.out hown' hg'); clear hown' hg' hat')
      clear a0 a1 a2 a3 a4 a5
      go_wp2_with fail
      refine (HC2.out _).mono ?_
      rintro e w7 ⟨v7, rfl, ho, hb7⟩
      have HK7 := Lib.hid (KR.next HK6.out hb7)
      obtain ⟨A7, c7, rfl⟩ := ho.form
      have HRd7 := Lib.hid ho.reads
      clear ho hb7 HK6
      go_wp2_with (at_builtin; refine wpList_append_any _ rfl _ _ 25 rfl (w.heap.size + 1) 5 i0 _ 1 1 Tryz.underlying25 HI.out HZ0.out HZ1.out HZ2.out rfl (by decide) _ _ _ rfl (obyt_own HK7.out.2.2.1) w7.heap.size A7 l92.length c7 _ rfl HRd7.out (oby_one l92) (by have := H1l.out; have := H2l.out; have := HFL.out; have := HS3.out; have := HD5.out; have := bytesOf_size (fmtL ps); unfold maxLen; simp [natL_len, dlen]; omega) (by have := H1l.out; have := H2l.out; have := HFL.out; have := HS3.out; have := HD5.out; have := bytesOf_size (fmtL ps); simp [natL_len, dlen]; omega) HK7.out.2.2.2 ?_; intro v' W' hown' hg' hat'; have HK8 := Lib.hid (KR.append HK7.out hown' hg'); clear hown' hg' hat')
      go_ret
      exact ⟨_, rfl, own_base (obyt_own (by have := HK8.out.2.2.1; rw [bytesOf_list] at this; simpa using this)) (by omega), HK8.out.2.1⟩
    · rw [if_neg hm]
      have hmf : ((m : Int) != 0) = true := by simp; omega
      clear hm
      unfold tkC at *
      go_enter Tryz.func40, Tryz.ntmps40
      go_upto_region 1 with fail
      generalize w.alloc (.cells #[.int .i64 5, .int .u8 (c : Int), .int .u8 (m : Int), .slice P ps.length pc, .string s, .slice D dt.length dc] 88) = w1 at *
      obtain ⟨a0, a1, a2, a3, a4, a5⟩ := six HK.out.1
      go_wp2_with fail
      refine (HB.out _).mono ?_
      rintro e w2 ⟨rfl, rfl⟩
      go_wp2_with fail
      refine (HC.out _).mono ?_
      rintro e w3 ⟨v3, rfl, ho, hb3⟩
      have HK3 := Lib.hid (ko_start HK.out ho hb3)
      clear ho hb3 a0 a1 a2 a3 a4 a5 HK HB HC
      obtain ⟨a0, a1, a2, a3, a4, a5⟩ := six HK3.out.1
      go_upto_region 11 with (at_builtin; have HK3a := Lib.hid (KR.next HK3.out ((Below.refl _ _).alloc (Nat.le_refl _) (.cells #[.int .u8 (m : Int)] 5))); refine wpList_append_any _ rfl _ _ 25 rfl (w.heap.size + 1) 5 i0 _ 1 1 Tryz.underlying25 HI.out HZ0.out HZ1.out HZ2.out rfl (by decide) _ _ _ rfl (obyt_own HK3a.out.2.2.1) _ (some ⟨w3.heap.size, 0, none⟩) 1 1 _ rfl (lit_reads w3 m) (oby_one [m]) (by have := H1l.out; have := H2l.out; have := HFL.out; have := HS3.out; have := HD5.out; have := bytesOf_size (fmtL ps); unfold maxLen; simp [natL_len, dlen]; omega) (by have := H1l.out; have := H2l.out; have := HFL.out; have := HS3.out; have := HD5.out; have := bytesOf_size (fmtL ps); simp [natL_len, dlen]; omega) HK3a.out.2.2.2 ?_; intro v4 w4 hown' hg' hat'; have HK4 := Lib.hid (KR.appendN (by simp [natL_len, dlen]) HK3a.out hown' hg'); clear hown' hg' hat')
      clear a0 a1 a2 a3 a4 a5
      obtain ⟨a0, a1, a2, a3, a4, a5⟩ := six HK4.out.1
      go_wp2_with fail
      refine (HFm.out _ (HR.out.next HK4.out.2.1)).mono ?_
      rintro e w5 ⟨rfl, hb5⟩
      have HK5 := Lib.hid (KR.next HK4.out hb5)
      clear hb5 a0 a1 a2 a3 a4 a5
      have hcv1 := HCV.out w5 (bytesOf (fmtL ps))
      go_upto_region 12 with (at_builtin; have HK5a := Lib.hid (KR.next HK5.out (str_world w5 (bytesOf (fmtL ps))).1); refine wpList_append_any _ rfl _ _ 25 rfl (w.heap.size + 1) 5 i0 _ 1 1 Tryz.underlying25 HI.out HZ0.out HZ1.out HZ2.out rfl (by decide) _ _ _ rfl (obyt_own HK5a.out.2.2.1) _ (some ⟨w5.heap.size, 0, none⟩) (bytesOf (fmtL ps)).size _ _ rfl (str_reads w5 (bytesOf (fmtL ps))) (oby_one (natL (bytesOf (fmtL ps)).data.toList)) (by have := H1l.out; have := H2l.out; have := HFL.out; have := HS3.out; have := HD5.out; have := bytesOf_size (fmtL ps); unfold maxLen; simp [natL_len, dlen]; omega) (by have := H1l.out; have := H2l.out; have := HFL.out; have := HS3.out; have := HD5.out; have := bytesOf_size (fmtL ps); simp [natL_len, dlen]; omega) HK5a.out.2.2.2 ?_; intro v6 w6 hown' hg' hat'; have HK6 := Lib.hid (KR.appendN (by simp [natL_len, dlen]) HK5a.out hown' hg'); clear hown' hg' hat')
      clear hcv1
      obtain ⟨a0, a1, a2, a3, a4, a5⟩ := six HK6.out.1
      have hcv1 := HCV.out w6 s
      go_upto_region 13 with (at_builtin; have HK6a := Lib.hid (KR.next HK6.out (str_world w6 s).1); refine wpList_append_any _ rfl _ _ 25 rfl (w.heap.size + 1) 5 i0 _ 1 1 Tryz.underlying25 HI.out HZ0.out HZ1.out HZ2.out rfl (by decide) _ _ _ rfl (obyt_own HK6a.out.2.2.1) _ (some ⟨w6.heap.size, 0, none⟩) s.size _ _ rfl (str_reads w6 s) (oby_one (natL s.data.toList)) (by have := H1l.out; have := H2l.out; have := HFL.out; have := HS3.out; have := HD5.out; have := bytesOf_size (fmtL ps); unfold maxLen; simp [natL_len, dlen]; omega) (by have := H1l.out; have := H2l.out; have := HFL.out; have := HS3.out; have := HD5.out; have := bytesOf_size (fmtL ps); simp [natL_len, dlen]; omega) HK6a.out.2.2.2 ?_; intro v9 w9 hown' hg' hat'; have HK9 := Lib.hid (KR.appendN (by simp [natL_len, dlen]) HK6a.out hown' hg'); clear hown' hg' hat')
      clear hcv1 a0 a1 a2 a3 a4 a5
      obtain ⟨a0, a1, a2, a3, a4, a5⟩ := six HK9.out.1
      go_upto_region 14 with (at_builtin; have HK9a := Lib.hid (KR.next HK9.out ((Below.refl _ _).alloc (Nat.le_refl _) (.cells #[.int .u8 (c : Int)] 5))); refine wpList_append_any _ rfl _ _ 25 rfl (w.heap.size + 1) 5 i0 _ 1 1 Tryz.underlying25 HI.out HZ0.out HZ1.out HZ2.out rfl (by decide) _ _ _ rfl (obyt_own HK9a.out.2.2.1) _ (some ⟨w9.heap.size, 0, none⟩) 1 1 _ rfl (lit_reads w9 c) (oby_one [c]) (by have := H1l.out; have := H2l.out; have := HFL.out; have := HS3.out; have := HD5.out; have := bytesOf_size (fmtL ps); unfold maxLen; simp [natL_len, dlen]; omega) (by have := H1l.out; have := H2l.out; have := HFL.out; have := HS3.out; have := HD5.out; have := bytesOf_size (fmtL ps); simp [natL_len, dlen]; omega) HK9a.out.2.2.2 ?_; intro v10 w10 hown' hg' hat'; have HK10 := Lib.hid (KR.appendN (by simp [natL_len, dlen]) HK9a.out hown' hg'); clear hown' hg' hat')
      clear a0 a1 a2 a3 a4 a5
      obtain ⟨a0, a1, a2, a3, a4, a5⟩ := six HK10.out.1
      go_upto_region 16 with (at_builtin; refine wpList_append_any _ rfl _ _ 25 rfl (w.heap.size + 1) 5 i0 _ 1 1 Tryz.underlying25 HI.out HZ0.out HZ1.out HZ2.out rfl (by decide) _ _ _ rfl (obyt_own HK10.out.2.2.1) _ D dt.length dc _ rfl (HD.out.next HK10.out.2.1) (oby_one dt) (by have := H1l.out; have := H2l.out; have := HFL.out; have := HS3.out; have := HD5.out; have := bytesOf_size (fmtL ps); unfold maxLen; simp [natL_len, dlen]; omega) (by have := H1l.out; have := H2l.out; have := HFL.out; have := HS3.out; have := HD5.out; have := bytesOf_size (fmtL ps); simp [natL_len, dlen]; omega) HK10.out.2.2.2 ?_; intro v' W' hown' hg' hat'; have HK6 := Lib.hid (KR.append HK10.out hown' hg'); clear hown' hg' hat')
      clear a0 a1 a2 a3 a4 a5
      go_wp2_with fail
      refine (HC2.out _).mono ?_
      rintro e w7 ⟨v7, rfl, ho, hb7⟩
      have HK7 := Lib.hid (KR.next HK6.out hb7)
      obtain ⟨A7, c7, rfl⟩ := ho.form
      have HRd7 := Lib.hid ho.reads
      clear ho hb7 HK6
      go_wp2_with (at_builtin; refine wpList_append_any _ rfl _ _ 25 rfl (w.heap.size + 1) 5 i0 _ 1 1 Tryz.underlying25 HI.out HZ0.out HZ1.out HZ2.out rfl (by decide) _ _ _ rfl (obyt_own HK7.out.2.2.1) w7.heap.size A7 l92.length c7 _ rfl HRd7.out (oby_one l92) (by have := H1l.out; have := H2l.out; have := HFL.out; have := HS3.out; have := HD5.out; have := bytesOf_size (fmtL ps); unfold maxLen; simp [natL_len, dlen]; omega) (by have := H1l.out; have := H2l.out; have := HFL.out; have := HS3.out; have := HD5.out; have := bytesOf_size (fmtL ps); simp [natL_len, dlen]; omega) HK7.out.2.2.2 ?_; intro v' W' hown' hg' hat'; have HK8 := Lib.hid (KR.append HK7.out hown' hg'); clear hown' hg' hat')
      go_ret
      exact ⟨_, rfl, own_base (obyt_own (by have := HK8.out.2.2.1; rw [bytesOf_list] at this; simpa using this)) (by omega), HK8.out.2.1⟩
  · skip
    have e : bytesL 6 c m ps s dt eight = leadL 93 eight ++ (dt ++ leadL 92 eight) := by
      show leadL 93 eight ++ [] ++ (dt ++ leadL 92 eight) = _
      simp
    rw [e]
    clear e hV
    have HB := Lib.hid (fun (W : World) => (begins_any 6 (by omega) W : Calls Tryz.prog 65 #[.int .i64 6] W fun e w' => e = .returned (.int .u8 93) ∧ W = w'))
    have HC : Hid (∀ W, Calls Tryz.prog 64 #[.int .u8 93, .bool eight] W fun e w' => ∃ v, e = .returned v ∧ OByt w' W.heap.size v (leadL 93 eight) ∧ Below W.heap.size W w') := Lib.hid (fun W => HPr.out 93 (by decide) W)
    have HC2 : Hid (∀ W, Calls Tryz.prog 64 #[.int .u8 92, .bool eight] W fun e w' => ∃ v, e = .returned v ∧ OByt w' W.heap.size v (leadL 92 eight) ∧ Below W.heap.size W w') := Lib.hid (fun W => HPr.out 92 (by decide) W)
    have H1l := Lib.hid (HLl.out 93)
    have H2l := Lib.hid (HLl.out 92)
    clear HPr HLl
    generalize leadL 93 eight = l1 at *
    generalize leadL 92 eight = l92 at *
    unfold tkC at *
    go_enter Tryz.func40, Tryz.ntmps40
    go_upto_region 1 with fail
    generalize w.alloc (.cells #[.int .i64 6, .int .u8 (c : Int), .int .u8 (m : Int), .slice P ps.length pc, .string s, .slice D dt.length dc] 88) = w1 at *
    obtain ⟨a0, a1, a2, a3, a4, a5⟩ := six HK.out.1
    go_wp2_with fail
    refine (HB.out _).mono ?_
    rintro e w2 ⟨rfl, rfl⟩
    go_wp2_with fail
    refine (HC.out _).mono ?_
    rintro e w3 ⟨v3, rfl, ho, hb3⟩
    have HK3 := Lib.hid (ko_start HK.out ho hb3)
    clear ho hb3 a0 a1 a2 a3 a4 a5 HK HB HC
    obtain ⟨a0, a1, a2, a3, a4, a5⟩ := six HK3.out.1
    go_upto_region 16 with (at_builtin; refine wpList_append_any _ rfl _ _ 25 rfl (w.heap.size + 1) 5 i0 _ 1 1 Tryz.underlying25 HI.out HZ0.out HZ1.out HZ2.out rfl (by decide) _ _ _ rfl (obyt_own HK3.out.2.2.1) _ D dt.length dc _ rfl (HD.out.next HK3.out.2.1) (oby_one dt) (by have := H1l.out; have := H2l.out; have := HFL.out; have := HS3.out; have := HD5.out; have := bytesOf_size (fmtL ps); unfold maxLen; simp [natL_len, dlen]; omega) (by have := H1l.out; have := H2l.out; have := HFL.out; have := HS3.out; have := HD5.out; have := bytesOf_size (fmtL ps); simp [natL_len, dlen]; omega) HK3.out.2.2.2 ?_; intro v' W' hown' hg' hat'; have HK6 := Lib.hid (KR.append HK3.out hown' hg'); clear hown' hg' hat')
    clear a0 a1 a2 a3 a4 a5
    go_wp2_with fail
    refine (HC2.out _).mono ?_
    rintro e w7 ⟨v7, rfl, ho, hb7⟩
    have HK7 := Lib.hid (KR.next HK6.out hb7)
    obtain ⟨A7, c7, rfl⟩ := ho.form
    have HRd7 := Lib.hid ho.reads
    clear ho hb7 HK6
    go_wp2_with (at_builtin; refine wpList_append_any _ rfl _ _ 25 rfl (w.heap.size + 1) 5 i0 _ 1 1 Tryz.underlying25 HI.out HZ0.out HZ1.out HZ2.out rfl (by decide) _ _ _ rfl (obyt_own HK7.out.2.2.1) w7.heap.size A7 l92.length c7 _ rfl HRd7.out (oby_one l92) (by have := H1l.out; have := H2l.out; have := HFL.out; have := HS3.out; have := HD5.out; have := bytesOf_size (fmtL ps); unfold maxLen; simp [natL_len, dlen]; omega) (by have := H1l.out; have := H2l.out; have := HFL.out; have := HS3.out; have := HD5.out; have := bytesOf_size (fmtL ps); simp [natL_len, dlen]; omega) HK7.out.2.2.2 ?_; intro v' W' hown' hg' hat'; have HK8 := Lib.hid (KR.append HK7.out hown' hg'); clear hown' hg' hat')
    go_ret
    exact ⟨_, rfl, own_base (obyt_own (by have := HK8.out.2.2.1; simpa using this)) (by omega), HK8.out.2.1⟩
  · skip
    have e : bytesL 7 c m ps s dt eight = leadL 88 eight ++ (dt ++ leadL 92 eight) := by
      show leadL 88 eight ++ [] ++ (dt ++ leadL 92 eight) = _
      simp
    rw [e]
    clear e hV
    have HB := Lib.hid (fun (W : World) => (begins_any 7 (by omega) W : Calls Tryz.prog 65 #[.int .i64 7] W fun e w' => e = .returned (.int .u8 88) ∧ W = w'))
    have HC : Hid (∀ W, Calls Tryz.prog 64 #[.int .u8 88, .bool eight] W fun e w' => ∃ v, e = .returned v ∧ OByt w' W.heap.size v (leadL 88 eight) ∧ Below W.heap.size W w') := Lib.hid (fun W => HPr.out 88 (by decide) W)
    have HC2 : Hid (∀ W, Calls Tryz.prog 64 #[.int .u8 92, .bool eight] W fun e w' => ∃ v, e = .returned v ∧ OByt w' W.heap.size v (leadL 92 eight) ∧ Below W.heap.size W w') := Lib.hid (fun W => HPr.out 92 (by decide) W)
    have H1l := Lib.hid (HLl.out 88)
    have H2l := Lib.hid (HLl.out 92)
    clear HPr HLl
    generalize leadL 88 eight = l1 at *
    generalize leadL 92 eight = l92 at *
    unfold tkC at *
    go_enter Tryz.func40, Tryz.ntmps40
    go_upto_region 1 with fail
    generalize w.alloc (.cells #[.int .i64 7, .int .u8 (c : Int), .int .u8 (m : Int), .slice P ps.length pc, .string s, .slice D dt.length dc] 88) = w1 at *
    obtain ⟨a0, a1, a2, a3, a4, a5⟩ := six HK.out.1
    go_wp2_with fail
    refine (HB.out _).mono ?_
    rintro e w2 ⟨rfl, rfl⟩
    go_wp2_with fail
    refine (HC.out _).mono ?_
    rintro e w3 ⟨v3, rfl, ho, hb3⟩
    have HK3 := Lib.hid (ko_start HK.out ho hb3)
    clear ho hb3 a0 a1 a2 a3 a4 a5 HK HB HC
    obtain ⟨a0, a1, a2, a3, a4, a5⟩ := six HK3.out.1
    go_upto_region 16 with (at_builtin; refine wpList_append_any _ rfl _ _ 25 rfl (w.heap.size + 1) 5 i0 _ 1 1 Tryz.underlying25 HI.out HZ0.out HZ1.out HZ2.out rfl (by decide) _ _ _ rfl (obyt_own HK3.out.2.2.1) _ D dt.length dc _ rfl (HD.out.next HK3.out.2.1) (oby_one dt) (by have := H1l.out; have := H2l.out; have := HFL.out; have := HS3.out; have := HD5.out; have := bytesOf_size (fmtL ps); unfold maxLen; simp [natL_len, dlen]; omega) (by have := H1l.out; have := H2l.out; have := HFL.out; have := HS3.out; have := HD5.out; have := bytesOf_size (fmtL ps); simp [natL_len, dlen]; omega) HK3.out.2.2.2 ?_; intro v' W' hown' hg' hat'; have HK6 := Lib.hid (KR.append HK3.out hown' hg'); clear hown' hg' hat')
    clear a0 a1 a2 a3 a4 a5
    go_wp2_with fail
    refine (HC2.out _).mono ?_
    rintro e w7 ⟨v7, rfl, ho, hb7⟩
    have HK7 := Lib.hid (KR.next HK6.out hb7)
    obtain ⟨A7, c7, rfl⟩ := ho.form
    have HRd7 := Lib.hid ho.reads
    clear ho hb7 HK6
    go_wp2_with (at_builtin; refine wpList_append_any _ rfl _ _ 25 rfl (w.heap.size + 1) 5 i0 _ 1 1 Tryz.underlying25 HI.out HZ0.out HZ1.out HZ2.out rfl (by decide) _ _ _ rfl (obyt_own HK7.out.2.2.1) w7.heap.size A7 l92.length c7 _ rfl HRd7.out (oby_one l92) (by have := H1l.out; have := H2l.out; have := HFL.out; have := HS3.out; have := HD5.out; have := bytesOf_size (fmtL ps); unfold maxLen; simp [natL_len, dlen]; omega) (by have := H1l.out; have := H2l.out; have := HFL.out; have := HS3.out; have := HD5.out; have := bytesOf_size (fmtL ps); simp [natL_len, dlen]; omega) HK7.out.2.2.2 ?_; intro v' W' hown' hg' hat'; have HK8 := Lib.hid (KR.append HK7.out hown' hg'); clear hown' hg' hat')
    go_ret
    exact ⟨_, rfl, own_base (obyt_own (by have := HK8.out.2.2.1; simpa using this)) (by omega), HK8.out.2.1⟩
  · skip
    have e : bytesL 8 c m ps s dt eight = leadL 94 eight ++ (dt ++ leadL 92 eight) := by
      show leadL 94 eight ++ [] ++ (dt ++ leadL 92 eight) = _
      simp
    rw [e]
    clear e hV
    have HB := Lib.hid (fun (W : World) => (begins_any 8 (by omega) W : Calls Tryz.prog 65 #[.int .i64 8] W fun e w' => e = .returned (.int .u8 94) ∧ W = w'))
    have HC : Hid (∀ W, Calls Tryz.prog 64 #[.int .u8 94, .bool eight] W fun e w' => ∃ v, e = .returned v ∧ OByt w' W.heap.size v (leadL 94 eight) ∧ Below W.heap.size W w') := Lib.hid (fun W => HPr.out 94 (by decide) W)
    have HC2 : Hid (∀ W, Calls Tryz.prog 64 #[.int .u8 92, .bool eight] W fun e w' => ∃ v, e = .returned v ∧ OByt w' W.heap.size v (leadL 92 eight) ∧ Below W.heap.size W w') := Lib.hid (fun W => HPr.out 92 (by decide) W)
    have H1l := Lib.hid (HLl.out 94)
    have H2l := Lib.hid (HLl.out 92)
    clear HPr HLl
    generalize leadL 94 eight = l1 at *
    generalize leadL 92 eight = l92 at *
    unfold tkC at *
    go_enter Tryz.func40, Tryz.ntmps40
    go_upto_region 1 with fail
    generalize w.alloc (.cells #[.int .i64 8, .int .u8 (c : Int), .int .u8 (m : Int), .slice P ps.length pc, .string s, .slice D dt.length dc] 88) = w1 at *
    obtain ⟨a0, a1, a2, a3, a4, a5⟩ := six HK.out.1
    go_wp2_with fail
    refine (HB.out _).mono ?_
    rintro e w2 ⟨rfl, rfl⟩
    go_wp2_with fail
    refine (HC.out _).mono ?_
    rintro e w3 ⟨v3, rfl, ho, hb3⟩
    have HK3 := Lib.hid (ko_start HK.out ho hb3)
    clear ho hb3 a0 a1 a2 a3 a4 a5 HK HB HC
    obtain ⟨a0, a1, a2, a3, a4, a5⟩ := six HK3.out.1
    go_upto_region 16 with (at_builtin; refine wpList_append_any _ rfl _ _ 25 rfl (w.heap.size + 1) 5 i0 _ 1 1 Tryz.underlying25 HI.out HZ0.out HZ1.out HZ2.out rfl (by decide) _ _ _ rfl (obyt_own HK3.out.2.2.1) _ D dt.length dc _ rfl (HD.out.next HK3.out.2.1) (oby_one dt) (by have := H1l.out; have := H2l.out; have := HFL.out; have := HS3.out; have := HD5.out; have := bytesOf_size (fmtL ps); unfold maxLen; simp [natL_len, dlen]; omega) (by have := H1l.out; have := H2l.out; have := HFL.out; have := HS3.out; have := HD5.out; have := bytesOf_size (fmtL ps); simp [natL_len, dlen]; omega) HK3.out.2.2.2 ?_; intro v' W' hown' hg' hat'; have HK6 := Lib.hid (KR.append HK3.out hown' hg'); clear hown' hg' hat')
    clear a0 a1 a2 a3 a4 a5
    go_wp2_with fail
    refine (HC2.out _).mono ?_
    rintro e w7 ⟨v7, rfl, ho, hb7⟩
    have HK7 := Lib.hid (KR.next HK6.out hb7)
    obtain ⟨A7, c7, rfl⟩ := ho.form
    have HRd7 := Lib.hid ho.reads
    clear ho hb7 HK6
    go_wp2_with (at_builtin; refine wpList_append_any _ rfl _ _ 25 rfl (w.heap.size + 1) 5 i0 _ 1 1 Tryz.underlying25 HI.out HZ0.out HZ1.out HZ2.out rfl (by decide) _ _ _ rfl (obyt_own HK7.out.2.2.1) w7.heap.size A7 l92.length c7 _ rfl HRd7.out (oby_one l92) (by have := H1l.out; have := H2l.out; have := HFL.out; have := HS3.out; have := HD5.out; have := bytesOf_size (fmtL ps); unfold maxLen; simp [natL_len, dlen]; omega) (by have := H1l.out; have := H2l.out; have := HFL.out; have := HS3.out; have := HD5.out; have := bytesOf_size (fmtL ps); simp [natL_len, dlen]; omega) HK7.out.2.2.2 ?_; intro v' W' hown' hg' hat'; have HK8 := Lib.hid (KR.append HK7.out hown' hg'); clear hown' hg' hat')
    go_ret
    exact ⟨_, rfl, own_base (obyt_own (by have := HK8.out.2.2.1; simpa using this)) (by omega), HK8.out.2.1⟩
  · skip
    have e : bytesL 9 c m ps s dt eight = leadL 95 eight ++ (dt ++ leadL 92 eight) := by
      show leadL 95 eight ++ [] ++ (dt ++ leadL 92 eight) = _
      simp
    rw [e]
    clear e hV
    have HB := Lib.hid (fun (W : World) => (begins_any 9 (by omega) W : Calls Tryz.prog 65 #[.int .i64 9] W fun e w' => e = .returned (.int .u8 95) ∧ W = w'))
    have HC : Hid (∀ W, Calls Tryz.prog 64 #[.int .u8 95, .bool eight] W fun e w' => ∃ v, e = .returned v ∧ OByt w' W.heap.size v (leadL 95 eight) ∧ Below W.heap.size W w') := Lib.hid (fun W => HPr.out 95 (by decide) W)
    have HC2 : Hid (∀ W, Calls Tryz.prog 64 #[.int .u8 92, .bool eight] W fun e w' => ∃ v, e = .returned v ∧ OByt w' W.heap.size v (leadL 92 eight) ∧ Below W.heap.size W w') := Lib.hid (fun W => HPr.out 92 (by decide) W)
    have H1l := Lib.hid (HLl.out 95)
    have H2l := Lib.hid (HLl.out 92)
    clear HPr HLl
    generalize leadL 95 eight = l1 at *
    generalize leadL 92 eight = l92 at *
    unfold tkC at *
    go_enter Tryz.func40, Tryz.ntmps40
    go_upto_region 1 with fail
    generalize w.alloc (.cells #[.int .i64 9, .int .u8 (c : Int), .int .u8 (m : Int), .slice P ps.length pc, .string s, .slice D dt.length dc] 88) = w1 at *
    obtain ⟨a0, a1, a2, a3, a4, a5⟩ := six HK.out.1
    go_wp2_with fail
    refine (HB.out _).mono ?_
    rintro e w2 ⟨rfl, rfl⟩
    go_wp2_with fail
    refine (HC.out _).mono ?_
    rintro e w3 ⟨v3, rfl, ho, hb3⟩
    have HK3 := Lib.hid (ko_start HK.out ho hb3)
    clear ho hb3 a0 a1 a2 a3 a4 a5 HK HB HC
    obtain ⟨a0, a1, a2, a3, a4, a5⟩ := six HK3.out.1
    go_upto_region 16 with (at_builtin; refine wpList_append_any _ rfl _ _ 25 rfl (w.heap.size + 1) 5 i0 _ 1 1 Tryz.underlying25 HI.out HZ0.out HZ1.out HZ2.out rfl (by decide) _ _ _ rfl (obyt_own HK3.out.2.2.1) _ D dt.length dc _ rfl (HD.out.next HK3.out.2.1) (oby_one dt) (by have := H1l.out; have := H2l.out; have := HFL.out; have := HS3.out; have := HD5.out; have := bytesOf_size (fmtL ps); unfold maxLen; simp [natL_len, dlen]; omega) (by have := H1l.out; have := H2l.out; have := HFL.out; have := HS3.out; have := HD5.out; have := bytesOf_size (fmtL ps); simp [natL_len, dlen]; omega) HK3.out.2.2.2 ?_; intro v' W' hown' hg' hat'; have HK6 := Lib.hid (KR.append HK3.out hown' hg'); clear hown' hg' hat')
    clear a0 a1 a2 a3 a4 a5
    go_wp2_with fail
    refine (HC2.out _).mono ?_
    rintro e w7 ⟨v7, rfl, ho, hb7⟩
    have HK7 := Lib.hid (KR.next HK6.out hb7)
    obtain ⟨A7, c7, rfl⟩ := ho.form
    have HRd7 := Lib.hid ho.reads
    clear ho hb7 HK6
    go_wp2_with (at_builtin; refine wpList_append_any _ rfl _ _ 25 rfl (w.heap.size + 1) 5 i0 _ 1 1 Tryz.underlying25 HI.out HZ0.out HZ1.out HZ2.out rfl (by decide) _ _ _ rfl (obyt_own HK7.out.2.2.1) w7.heap.size A7 l92.length c7 _ rfl HRd7.out (oby_one l92) (by have := H1l.out; have := H2l.out; have := HFL.out; have := HS3.out; have := HD5.out; have := bytesOf_size (fmtL ps); unfold maxLen; simp [natL_len, dlen]; omega) (by have := H1l.out; have := H2l.out; have := HFL.out; have := HS3.out; have := HD5.out; have := bytesOf_size (fmtL ps); simp [natL_len, dlen]; omega) HK7.out.2.2.2 ?_; intro v' W' hown' hg' hat'; have HK8 := Lib.hid (KR.append HK7.out hown' hg'); clear hown' hg' hat')
    go_ret
    exact ⟨_, rfl, own_base (obyt_own (by have := HK8.out.2.2.1; simpa using this)) (by omega), HK8.out.2.1⟩
end Go.Proofs.YtigaaidacndeiaaGreatDoor

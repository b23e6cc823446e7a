/-
  What the laws of the parser share: a fixed fact, the first bytes of a stream.
  Every token that is said can be: what is known of a parser at each place.
  Every token that is said can be: the steps.
  Parsers that are held against each other.
  Lists of tokens that are held against each other; lists that are told.
  Lists of tokens that are told; tokens behind tokens; a parser that is copied.
  What the laws of the parser share: pieces of a stream, what came in, the sizes of what is told.
  The reference's small calls: a control's token, bytes that break, what they leave.
  The reference's Plain.
  The reference's header of a sequence.
  The reference's header of a sequence: the walk.
  The reference's reading of a Csi's or Dcs's header: plain facts, pieces of what came in.
  The reference's reading of a Csi's or Dcs's header: the walk.
  The reference's string: plain facts.
  The reference's string: the walk.
  The reference's sequence: plain facts.
  The reference's sequence: the walk.
  The reference's Split: plain facts.
  The reference's Split: the walk.
  A plain stream, byte by byte: what a header does.
  A plain stream, byte by byte: what a header's bytes leave; strings.
  A plain stream, byte by byte: the numbers of a header; strings.
  A plain stream, byte by byte, says what the reference says of the whole.
  A stream that is fed says what the reference says of the whole.
  What the laws of the parser share: the reference's Split, by what is fed.
  What a token's bytes say is that token.
  A parser that stands outside is as it was at first; a parser that is copied.
  What is said again of tokens, in seven and in eight bits.
-/
import Derived.Test.YtfnamfkjbkhgeaaGreatDoorPrsR
import Derived.Lib.SlBytesConst
import Derived.Test.YtfnamfkjbkhgeaaGreatDoorTokI
import Derived.Test.YtfnamfkjbkhgeaaGreatDoorTokY
import Derived.Deep.MidRow
import Derived.ChangeKeysEq
import Derived.Laws.StructEq
import Derived.Test.YtfnamfkjbkhgeaaGreatDoorParV
import Derived.Test.YtfnamfkjbkhgeaaGreatDoorTokP
namespace Go.Proofs.YtfnamfkjbkhgeaaGreatDoor

open Go Go.RowKit


def awkNs : List Nat := [97, 27, 91, 49, 59, 10, 50, 109]
theorem awk_feed : (feedL ps0 awkNs).2 = [prtT 97, ctlT 10, ⟨4, 109, 0, [1, 2], ⟨#[]⟩, []⟩] := by kernel_rfl

end Go.Proofs.YtfnamfkjbkhgeaaGreatDoor

namespace Go.Proofs.YtfnamfkjbkhgeaaGreatDoor

open Go Go.RowKit

def okT (t : Tok) : Prop := t.kd = 0 ∨ (t.cd < 256 ∧ checkP t.kd t.cd t.mr t.ps t.it t.dt = 0)
def mrOk (m : Nat) : Prop := m = 0 ∨ (60 ≤ m ∧ m ≤ 63)
def itOk (s : ByteArray) : Prop := s.data.toList.all interB = true
def dtOk (l : List Nat) : Prop := ∀ n ∈ l, noDataB n = false
structure Ev (s : Ps) : Prop where
  kd : s.kd = 3
  cd : s.cd = 0
  mr : s.mr = 0
  fs : s.fs = []
  ds : s.ds = []
  it : itOk s.it
structure Cv (s : Ps) : Prop where
  kd : s.kd = 4 ∨ s.kd = 5
  mr : mrOk s.mr
  it : itOk s.it
  ds : s.ds = []
structure Dv (s : Ps) : Prop where
  kd : s.kd = 5
  cd : 64 ≤ s.cd ∧ s.cd ≤ 126
  mr : mrOk s.mr
  it : itOk s.it
structure Ov (s : Ps) : Prop where
  kd : 6 ≤ s.kd ∧ s.kd ≤ 9
  cd : s.cd = 0
  mr : s.mr = 0
  fs : s.fs = []
  it : s.it = ⟨#[]⟩
def VV (s : Ps) : Prop := s.pl = 0 ∨ (s.pl = 1 ∧ Ev s ∧ s.it = ⟨#[]⟩) ∨ (s.pl = 2 ∧ Ev s ∧ 0 < s.it.size) ∨ ((s.pl = 3 ∨ s.pl = 4 ∨ s.pl = 5) ∧ Cv s) ∨ ((s.pl = 6 ∨ s.pl = 7) ∧ (Dv s ∨ Ov s) ∧ dtOk s.ds)
/-- What is known of a parser. -/
structure V (s : Ps) : Prop where
  ok : s.ok
  at_ : VV s
def VT (r : Ps × Tok) : Prop := V r.1 ∧ okT r.2
theorem okT0 : okT tok0 := .inl rfl
theorem itOk0 : itOk ⟨#[]⟩ := rfl
theorem V0 : V ps0 := ⟨ps0_ok, .inl rfl⟩
theorem Vb : V begP := ⟨ps0_ok.to rfl rfl rfl, .inr (.inl ⟨rfl, ⟨rfl, rfl, rfl, rfl, rfl, itOk0⟩, rfl⟩)⟩
theorem out_none {fs : List Int} (h : InF fs) : (fs.take 30).any outB = false := by
  rw [List.any_eq_false]
  intro n hn
  have := h n (List.mem_of_mem_take hn)
  simp [outB, clipP]; omega
theorem small_ok {s : Ps} (h : s.ok) : smallB (s.fs.take 30) s.it s.ds = true := by
  unfold smallB
  rw [out_none h.fs]
  have h1 := h.it; have h2 := h.ds
  simp; omega
theorem bstr0 : bstr [] = ⟨#[]⟩ := rfl
theorem check_of {k : Int} {c m : Nat} {ps : List Int} {s : ByteArray} {dt : List Nat} (hk : 1 ≤ k ∧ k ≤ 9) (h1 : smallB ps s dt = true) (h2 : pureB k c m ps s dt = true) (h3 : codedB k c s = true) (h4 : writtenB m s dt = true) : checkP k c m ps s dt = 0 := by
  unfold checkP
  rw [if_neg (by omega), h1, h2, h3, h4]
  rfl
theorem small0 : smallB [] ⟨#[]⟩ [] = true := rfl
theorem pure1 (c : Nat) : pureB 1 c 0 [] ⟨#[]⟩ [] = true := by unfold pureB; rw [if_pos (.inl rfl)]; decide +kernel
theorem pure2 (c : Nat) : pureB 2 c 0 [] ⟨#[]⟩ [] = true := by unfold pureB; rw [if_pos (.inr rfl)]; decide +kernel
theorem pure3 (c : Nat) (s : ByteArray) : pureB 3 c 0 [] s [] = true := by unfold pureB; rw [if_neg (by decide), if_pos rfl]; decide +kernel
theorem pure4 (c m : Nat) (ps : List Int) (s : ByteArray) : pureB 4 c m ps s [] = true := by unfold pureB; rw [if_neg (by decide), if_neg (by decide), if_pos rfl]; decide +kernel
theorem wr0 : writtenB 0 ⟨#[]⟩ [] = true := by decide +kernel
theorem okT_ctl (c : Nat) (h : 1 ≤ c ∧ c < 32) (h24 : c ≠ 24) (h27 : c ≠ 27) : okT (ctlT c) := by
  refine .inr ⟨by show c < 256; omega, check_of (k := 2) ⟨by decide, by decide⟩ small0 (pure2 c) ?_ wr0⟩
  show codedB 2 c _ = true
  unfold codedB amongB
  rw [if_neg (by decide), if_pos rfl]
  simp; omega
theorem okT_prt (c : Nat) (h : 32 ≤ c ∧ c ≤ 255) (h127 : c ≠ 127) (hh : ¬ (128 ≤ c ∧ c ≤ 159)) : okT (prtT c) := by
  refine .inr ⟨by show c < 256; omega, check_of (k := 1) ⟨by decide, by decide⟩ small0 (pure1 c) ?_ wr0⟩
  show codedB 1 c _ = true
  unfold codedB amongB
  rw [if_pos rfl]
  simp; omega
theorem w_ok {m : Nat} {s : ByteArray} {dt : List Nat} (hm : mrOk m) (hi : itOk s) (hd : dtOk dt) : writtenB m s dt = true := by
  unfold writtenB amongB
  have h1 : dt.any noDataB = false := by rw [List.any_eq_false]; intro n hn; rw [hd n hn]; simp
  rw [h1, show s.data.toList.all interB = true from hi]
  rcases hm with h | h
  · simp [h]
  · simp; omega
theorem dt0 : dtOk [] := fun n hn => by cases hn
theorem okT_esc {s : Ps} (ho : s.ok) (h : Ev s) (c : Nat) (hc : 48 ≤ c ∧ c ≤ 126) (hl : s.it.size ≠ 0 ∨ leadsB c = false) : okT (endT {s with cd := c}) := by
  unfold endT
  cases hv : s.vo with
  | true => exact okT0
  | false =>
    refine .inr ⟨by show c < 256; omega, ?_⟩
    show checkP s.kd c s.mr (s.fs.take 30) s.it s.ds = 0
    have h1 := small_ok ho
    rw [h.fs, h.ds] at h1 ⊢
    rw [h.kd, h.mr]
    refine check_of ⟨by decide, by decide⟩ h1 (pure3 c _) ?_ (w_ok (.inl rfl) h.it dt0)
    unfold codedB amongB
    rw [if_neg (by decide), if_neg (by decide), if_pos rfl]
    rcases hl with hl | hl
    · simp [hl]; omega
    · simp [hl]; omega
theorem okT_csi {s : Ps} (ho : s.ok) (h : Cv s) (hk : s.kd = 4) (c : Nat) (hc : 64 ≤ c ∧ c ≤ 126) : okT (endT {s with cd := c}) := by
  unfold endT
  cases hv : s.vo with
  | true => exact okT0
  | false =>
    refine .inr ⟨by show c < 256; omega, ?_⟩
    show checkP s.kd c s.mr (s.fs.take 30) s.it s.ds = 0
    have h1 := small_ok ho
    rw [h.ds] at h1 ⊢
    rw [hk]
    refine check_of ⟨by decide, by decide⟩ h1 (pure4 _ _ _ _) ?_ (w_ok h.mr h.it dt0)
    unfold codedB amongB
    rw [if_neg (by decide), if_neg (by decide), if_neg (by decide), if_pos (by decide)]
    simp; omega
theorem okT_dcs {s : Ps} (ho : s.ok) (h : Dv s) (hd : dtOk s.ds) : okT (endT s) := by
  unfold endT
  cases hv : s.vo with
  | true => exact okT0
  | false =>
    refine .inr ⟨by have := h.cd; show s.cd < 256; omega, ?_⟩
    show checkP s.kd s.cd s.mr (s.fs.take 30) s.it s.ds = 0
    rw [h.kd]
    refine check_of ⟨by decide, by decide⟩ (small_ok ho) rfl ?_ (w_ok h.mr h.it hd)
    unfold codedB amongB
    rw [if_neg (by decide), if_neg (by decide), if_neg (by decide), if_pos (by decide)]
    have := h.cd
    simp; omega
theorem okT_osc {s : Ps} (ho : s.ok) (h : Ov s) (hd : dtOk s.ds) : okT (endT s) := by
  unfold endT
  cases hv : s.vo with
  | true => exact okT0
  | false =>
    refine .inr ⟨by have := h.cd; show s.cd < 256; omega, ?_⟩
    show checkP s.kd s.cd s.mr (s.fs.take 30) s.it s.ds = 0
    have hk := h.kd
    refine check_of ⟨by omega, by omega⟩ (small_ok ho) ?_ ?_ (w_ok (.inl h.mr) (by rw [h.it]; exact itOk0) hd)
    · rw [h.cd, h.mr, h.fs, h.it]
      unfold pureB
      rw [if_neg (by omega), if_neg (by omega), if_neg (by omega), if_neg (by omega)]
      simp [sameQ]
    · unfold codedB
      rw [if_neg (by omega), if_neg (by omega), if_neg (by omega), if_neg (by omega)]
end Go.Proofs.YtfnamfkjbkhgeaaGreatDoor

namespace Go.Proofs.YtfnamfkjbkhgeaaGreatDoor

open Go Go.RowKit

theorem ch_inter (c : Nat) (h : 32 ≤ c ∧ c ≤ 47) : interB (UInt8.ofNat c) = true := by
  unfold interB amongB
  have : (UInt8.ofNat c).toNat = c := by simp; omega
  rw [this]
  simp; omega
theorem itOk_snoc {s : ByteArray} (h : itOk s) (c : Nat) (hc : 32 ≤ c ∧ c ≤ 47) : itOk (s ++ chB c) := by
  unfold itOk chB at *
  rw [ByteArray.data_append, Array.toList_append, List.all_append, h]
  simpa using ch_inter c hc
theorem ch_size (c : Nat) : (chB c).size = 1 := rfl
/-- An Inter more. -/
structure InterF (s t : Ps) : Prop where
  pl : t.pl = s.pl
  kd : t.kd = s.kd
  cd : t.cd = s.cd
  mr : t.mr = s.mr
  fs : t.fs = s.fs
  ds : t.ds = s.ds
  it : itOk t.it
  sz : 0 < t.it.size
  ok : t.ok
theorem inter_facts {s : Ps} (ho : s.ok) (hi : itOk s.it) (c : Nat) (hc : 32 ≤ c ∧ c ≤ 47) : InterF s (takeInterP s c) := by
  unfold takeInterP
  by_cases h : s.it.size = 3
  · rw [if_pos h]
    exact ⟨rfl, rfl, rfl, rfl, rfl, rfl, hi, by show 0 < s.it.size; omega, ho.to rfl rfl rfl⟩
  · rw [if_neg h]
    have h3 := ho.it
    refine ⟨rfl, rfl, rfl, rfl, rfl, rfl, itOk_snoc hi c hc, ?_, ho.fs, ho.ds, ?_⟩
    · show 0 < (s.it ++ chB c).size
      rw [ByteArray.size_append, ch_size]; omega
    · show (s.it ++ chB c).size ≤ 3
      rw [ByteArray.size_append, ch_size]; omega
theorem pInter_iff {c : Nat} (h : pInter c = true) : 32 ≤ c ∧ c ≤ 47 := by simpa [pInter] using h
theorem VT_codeE {s : Ps} (ho : s.ok) (h : Ev s) (c : Nat) (hc : 48 ≤ c ∧ c ≤ 126) (hl : s.it.size ≠ 0 ∨ leadsB c = false) : VT (takeCodeP s c) := by
  unfold takeCodeP
  rw [if_neg (by rw [h.kd]; decide)]
  exact ⟨V0, okT_esc ho h c hc hl⟩
theorem VT_codeC {s : Ps} (ho : s.ok) (h : Cv s) (c : Nat) (hc : 64 ≤ c ∧ c ≤ 126) : VT (takeCodeP s c) := by
  unfold takeCodeP
  by_cases h5 : s.kd = 5
  · rw [if_pos h5]
    exact ⟨⟨ho.to rfl rfl rfl, .inr (.inr (.inr (.inr ⟨.inl rfl, .inl ⟨h5, hc, h.mr, h.it⟩, by show dtOk s.ds; rw [h.ds]; exact dt0⟩)))⟩, okT0⟩
  · rw [if_neg h5]
    exact ⟨V0, okT_csi ho h (by rcases h.kd with e | e; exact e; exact absurd e h5) c hc⟩
theorem VV_C {s : Ps} (hp : s.pl = 3 ∨ s.pl = 4 ∨ s.pl = 5) (h : Cv s) : VV s := .inr (.inr (.inr (.inl ⟨hp, h⟩)))
theorem VT_inters {s : Ps} (ho : s.ok) (hp : s.pl = 3 ∨ s.pl = 4 ∨ s.pl = 5) (h : Cv s) (c : Nat) (hc : 32 ≤ c ∧ c ≤ 126) : VT (takeIntersP s c) := by
  unfold takeIntersP
  cases h1 : pCode c with
  | true =>
    rw [if_pos rfl]
    exact VT_codeC ho h c ⟨by simpa [pCode] using h1, hc.2⟩
  | false =>
    rw [if_neg (by simp)]
    cases h2 : pInter c with
    | true =>
      rw [if_pos rfl]
      have hf := inter_facts (s := {s with pl := 5}) (ho.to rfl rfl rfl) h.it c (pInter_iff h2)
      exact ⟨⟨hf.ok, VV_C (.inr (.inr hf.pl)) ⟨by rw [hf.kd]; exact h.kd, by rw [hf.mr]; exact h.mr, hf.it, by rw [hf.ds]; exact h.ds⟩⟩, okT0⟩
    | false =>
      rw [if_neg (by simp)]
      exact ⟨⟨ho.to rfl rfl rfl, VV_C hp ⟨h.kd, h.mr, h.it, h.ds⟩⟩, okT0⟩
theorem VT_numbers {s : Ps} (ho : s.ok) (hp : s.pl = 3 ∨ s.pl = 4 ∨ s.pl = 5) (h : Cv s) (c : Nat) (hc : 32 ≤ c ∧ c ≤ 126) : VT (takeNumbersP s c) := by
  unfold takeNumbersP
  cases h1 : okb (UInt8.ofNat c) with
  | true =>
    rw [if_pos rfl]
    exact ⟨⟨⟨stepF_range ho.fs h1, ho.ds, ho.it⟩, VV_C hp ⟨h.kd, h.mr, h.it, h.ds⟩⟩, okT0⟩
  | false =>
    rw [if_neg (by simp)]
    exact VT_inters ho hp h c hc
theorem VT_first {s : Ps} (ho : s.ok) (h : Cv s) (c : Nat) (hc : 32 ≤ c ∧ c ≤ 126) : VT (takeFirstP s c) := by
  unfold takeFirstP
  cases h1 : pMark c with
  | true =>
    rw [if_pos rfl]
    exact ⟨⟨ho.to rfl rfl rfl, VV_C (.inr (.inl rfl)) ⟨h.kd, .inr (by simpa [pMark] using h1), h.it, h.ds⟩⟩, okT0⟩
  | false =>
    rw [if_neg (by simp)]
    exact VT_numbers (s := {s with pl := 4}) (ho.to rfl rfl rfl) (.inr (.inl rfl)) ⟨h.kd, h.mr, h.it, h.ds⟩ c hc
theorem VT_escInters {s : Ps} (ho : s.ok) (h : Ev s) (c : Nat) (hc : 32 ≤ c ∧ c ≤ 126) (hl : s.it.size ≠ 0 ∨ leadsB c = false) : VT (takeEscIntersP s c) := by
  unfold takeEscIntersP
  cases h2 : pInter c with
  | true =>
    rw [if_pos rfl]
    have hf := inter_facts (s := {s with pl := 2}) (ho.to rfl rfl rfl) h.it c (pInter_iff h2)
    exact ⟨⟨hf.ok, .inr (.inr (.inl ⟨hf.pl, ⟨hf.kd.trans h.kd, hf.cd.trans h.cd, hf.mr.trans h.mr, hf.fs.trans h.fs, hf.ds.trans h.ds, hf.it⟩, hf.sz⟩))⟩, okT0⟩
  | false =>
    rw [if_neg (by simp)]
    refine VT_codeE ho h c ⟨?_, hc.2⟩ hl
    simp [pInter] at h2
    omega
theorem VT_goC {s : Ps} (ho : s.ok) (h : Ev s) (k : Int) (hk : k = 4 ∨ k = 5) : VT ({s with kd := k, pl := 3}, tok0) :=
  ⟨⟨ho.to rfl rfl rfl, VV_C (.inl rfl) ⟨hk, .inl h.mr, h.it, h.ds⟩⟩, okT0⟩
theorem VT_goO {s : Ps} (ho : s.ok) (h : Ev s) (hi : s.it = ⟨#[]⟩) (k : Int) (hk : 6 ≤ k ∧ k ≤ 9) : VT ({s with kd := k, pl := 6}, tok0) :=
  ⟨⟨ho.to rfl rfl rfl, .inr (.inr (.inr (.inr ⟨.inl rfl, .inr ⟨hk, h.cd, h.mr, h.fs, hi⟩, by show dtOk s.ds; rw [h.ds]; exact dt0⟩)))⟩, okT0⟩
theorem VT_escaped {s : Ps} (ho : s.ok) (h : Ev s) (hi : s.it = ⟨#[]⟩) (c : Nat) (hc : 32 ≤ c ∧ c ≤ 126) : VT (takeEscapedP s c) := by
  unfold takeEscapedP
  by_cases h1 : c = 91; · rw [if_pos h1]; exact VT_goC ho h 4 (.inl rfl)
  rw [if_neg h1]
  by_cases h2 : c = 80; · rw [if_pos h2]; exact VT_goC ho h 5 (.inr rfl)
  rw [if_neg h2]
  by_cases h3 : c = 93; · rw [if_pos h3]; exact VT_goO ho h hi 6 (by decide)
  rw [if_neg h3]
  by_cases h4 : c = 88; · rw [if_pos h4]; exact VT_goO ho h hi 7 (by decide)
  rw [if_neg h4]
  by_cases h5 : c = 94; · rw [if_pos h5]; exact VT_goO ho h hi 8 (by decide)
  rw [if_neg h5]
  by_cases h6 : c = 95; · rw [if_pos h6]; exact VT_goO ho h hi 9 (by decide)
  rw [if_neg h6]
  by_cases h7 : c = 92; · rw [if_pos h7]; exact ⟨V0, okT0⟩
  rw [if_neg h7]
  refine VT_escInters ho h c hc (.inr ?_)
  simp [leadsB]
  omega
/-- A byte that is there, of seven bits or behind those that are escapes. -/
def bv (c : Nat) : Prop := 1 ≤ c ∧ c ≤ 255 ∧ c ≠ 127 ∧ ¬ (128 ≤ c ∧ c ≤ 159)
theorem VT_outside {s : Ps} (h : V s) (c : Nat) (hc : bv c) (_hn : s.pl = 0) : VT (takeOutsideP s c) := by
  unfold takeOutsideP bv at *
  by_cases h1 : c = 27; · rw [if_pos h1]; exact ⟨Vb, okT0⟩
  rw [if_neg h1]
  by_cases h2 : c = 24; · rw [if_pos h2]; exact ⟨h, okT0⟩
  rw [if_neg h2]
  by_cases h3 : c < 32; · rw [if_pos h3]; exact ⟨h, okT_ctl c ⟨hc.1, h3⟩ h2 h1⟩
  rw [if_neg h3]
  exact ⟨h, okT_prt c ⟨by omega, hc.2.1⟩ hc.2.2.1 hc.2.2.2⟩
theorem data_ok (c : Nat) (hc : bv c) (h : pData c = true) : noDataB c = false := by
  unfold bv at hc
  unfold pData at h
  unfold noDataB amongB
  simp at h ⊢
  omega
theorem okT_end {s : Ps} (ho : s.ok) (h : Dv s ∨ Ov s) (hd : dtOk s.ds) : okT (endT s) := by
  rcases h with h | h
  · exact okT_dcs ho h hd
  · exact okT_osc ho h hd
theorem VT_text {s : Ps} (ho : s.ok) (hp : s.pl = 6) (h : Dv s ∨ Ov s) (hd : dtOk s.ds) (c : Nat) (hc : bv c) : VT (takeTextP s c) := by
  have hk : ∀ (t : Ps), t.kd = s.kd → t.cd = s.cd → t.mr = s.mr → t.it = s.it → t.fs = s.fs → Dv t ∨ Ov t := fun t e1 e2 e3 e4 e5 => by
    rcases h with h | h
    · exact .inl ⟨e1.trans h.kd, by rw [e2]; exact h.cd, by rw [e3]; exact h.mr, by rw [e4]; exact h.it⟩
    · exact .inr ⟨by rw [e1]; exact h.kd, e2.trans h.cd, e3.trans h.mr, e5.trans h.fs, e4.trans h.it⟩
  unfold takeTextP
  by_cases h1 : c = 27
  · rw [if_pos h1]
    exact ⟨⟨ho.to rfl rfl rfl, .inr (.inr (.inr (.inr ⟨.inr rfl, hk _ rfl rfl rfl rfl rfl, hd⟩)))⟩, okT0⟩
  rw [if_neg h1]
  by_cases h2 : c = 7 ∧ s.kd = 6
  · rw [if_pos h2]; exact ⟨V0, okT_end ho h hd⟩
  rw [if_neg h2]
  have hself : VV s := .inr (.inr (.inr (.inr ⟨.inl hp, h, hd⟩)))
  cases h3 : pData c with
  | true =>
    rw [if_pos rfl]
    refine ⟨?_, okT0⟩
    unfold holdP
    by_cases h4 : s.ds.length = 4096
    · rw [if_pos h4]
      exact ⟨ho.to rfl rfl rfl, .inr (.inr (.inr (.inr ⟨.inl hp, hk _ rfl rfl rfl rfl rfl, hd⟩)))⟩
    · rw [if_neg h4]
      have h5 := ho.ds
      refine ⟨⟨ho.fs, by show (s.ds ++ [c]).length ≤ 4096; simp; omega, ho.it⟩, .inr (.inr (.inr (.inr ⟨.inl hp, hk _ rfl rfl rfl rfl rfl, fun n hn => ?_⟩)))⟩
      rcases List.mem_append.1 hn with hn | hn
      · exact hd n hn
      · obtain rfl : n = c := by simpa using hn
        exact data_ok n hc h3
  | false =>
    rw [if_neg (by simp)]
    exact ⟨⟨ho, hself⟩, okT0⟩
theorem mod_seven {c : Nat} (hc : bv c) (h : ¬ c < 32) (h2 : ¬ c = 255) : 32 ≤ c % 128 ∧ c % 128 ≤ 126 := by unfold bv at hc; omega
theorem VT_within {s : Ps} (h : V s) (hp : 1 ≤ s.pl ∧ s.pl ≤ 5) (c : Nat) (hc : bv c) (h24 : c ≠ 24) : VT (takeWithinP s c) := by
  unfold takeWithinP
  by_cases h1 : c = 27; · rw [if_pos h1]; exact ⟨Vb, okT0⟩
  rw [if_neg h1]
  by_cases h2 : c < 32; · rw [if_pos h2]; exact ⟨h, okT_ctl c ⟨hc.1, h2⟩ h24 h1⟩
  rw [if_neg h2]
  by_cases h3 : c = 255; · rw [if_pos h3]; exact ⟨h, okT0⟩
  rw [if_neg h3]
  have hd := mod_seven hc h2 h3
  generalize c % 128 = d at *
  unfold stepP
  rcases h.at_ with e | ⟨e, hE, hi⟩ | ⟨e, hE, hz⟩ | ⟨e, hC⟩ | ⟨e, _, _⟩
  · omega
  · rw [if_pos e]; exact VT_escaped h.ok hE hi d hd
  · rw [if_neg (by omega), if_pos e]; exact VT_escInters h.ok hE d hd (.inl (by omega))
  · rw [if_neg (by omega), if_neg (by omega)]
    by_cases p3 : s.pl = 3
    · rw [if_pos p3]; exact VT_first h.ok hC d hd
    · rw [if_neg p3]
      by_cases p4 : s.pl = 4
      · rw [if_pos p4]; exact VT_numbers h.ok e hC d hd
      · rw [if_neg p4]; exact VT_inters h.ok e hC d hd
  · omega
theorem VT_take0 {s : Ps} (h : V s) (c : Nat) (hc : bv c) (h7 : s.pl = 7 → c = 24 ∨ c = 26) : VT (takeP0 s c) := by
  unfold takeP0
  by_cases hcc : c = 24 ∨ c = 26
  · rw [if_pos hcc]; exact VT_outside V0 c hc rfl
  · rw [if_neg hcc]
    have hn7 : s.pl ≠ 7 := fun e => hcc (h7 e)
    unfold takePl
    by_cases p0 : s.pl = 0
    · rw [if_pos p0]; exact VT_outside h c hc p0
    · rw [if_neg p0]
      by_cases p6 : s.pl = 6
      · rw [if_pos p6]
        rcases h.at_ with e | ⟨e, _, _⟩ | ⟨e, _, _⟩ | ⟨e, _⟩ | ⟨_, hT, hd⟩
        · omega
        · omega
        · omega
        · omega
        · exact VT_text h.ok p6 hT hd c hc
      · rw [if_neg p6]
        refine VT_within h ?_ c hc (fun e => hcc (.inl e))
        rcases h.at_ with e | ⟨e, _, _⟩ | ⟨e, _, _⟩ | ⟨e, _⟩ | ⟨e, _, _⟩ <;> omega
theorem VT_take {s : Ps} (h : V s) (c : Nat) (hc : bv c) : VT (takeP s c) := by
  unfold takeP
  by_cases h7 : s.pl = 7 ∧ ¬ (c = 24 ∨ c = 26)
  · rw [if_pos h7]
    unfold takeTextEscapeP
    by_cases he : c = 92 ∨ c = 220
    · rw [if_pos he]
      rcases h.at_ with e | ⟨e, _, _⟩ | ⟨e, _, _⟩ | ⟨e, _⟩ | ⟨_, hT, hd⟩
      · omega
      · omega
      · omega
      · omega
      · exact ⟨V0, okT_end h.ok hT hd⟩
    · rw [if_neg he]; exact VT_take0 Vb c hc (fun e => by cases e)
  · rw [if_neg h7]
    exact VT_take0 h c hc (fun e => by by_cases hcc : c = 24 ∨ c = 26; exact hcc; exact absurd ⟨e, hcc⟩ h7)
theorem V_feedB {s : Ps} (h : V s) (c : Nat) (hc : c < 256) : V (feedB s c).1 ∧ ∀ t ∈ (feedB s c).2, t.kd ≠ 0 ∧ okT t := by
  unfold feedB
  have h1 : V (hiP s c).1 ∧ ((hiP s c).2 = 0 ∨ (hiP s c).2 = 127 ∨ bv (hiP s c).2) := by
    unfold hiP
    by_cases hh : 128 ≤ c ∧ c ≤ 159
    · rw [if_pos hh]
      refine ⟨(VT_take h 27 ⟨by decide, by decide, by decide, by decide⟩).1, .inr (.inr ?_)⟩
      show bv (c - 64)
      unfold bv; omega
    · rw [if_neg hh]
      refine ⟨h, ?_⟩
      show c = 0 ∨ c = 127 ∨ bv c
      unfold bv; omega
  unfold feedC
  by_cases hz : (hiP s c).2 = 0 ∨ (hiP s c).2 = 127
  · rw [if_pos hz]; exact ⟨h1.1, fun t ht => by cases ht⟩
  · rw [if_neg hz]
    have h2 := VT_take h1.1 (hiP s c).2 (by rcases h1.2 with e | e | e; exact absurd (.inl e) hz; exact absurd (.inr e) hz; exact e)
    refine ⟨h2.1, fun t ht => ?_⟩
    simp only at ht
    split at ht
    · cases ht
    · rename_i hk
      obtain rfl : t = _ := by simpa using ht
      exact ⟨hk, h2.2⟩
theorem V_fold (l : List Nat) : ∀ r : Ps × List Tok, V r.1 → (∀ t ∈ r.2, t.kd ≠ 0 ∧ okT t) → (∀ n ∈ l, n < 256) → V (l.foldl (fun r c => ((feedB r.1 c).1, r.2 ++ (feedB r.1 c).2)) r).1 ∧ ∀ t ∈ (l.foldl (fun r c => ((feedB r.1 c).1, r.2 ++ (feedB r.1 c).2)) r).2, t.kd ≠ 0 ∧ okT t := by
  induction l with
  | nil => intro r h h2 _; exact ⟨h, h2⟩
  | cons c l ih =>
    intro r h h2 hn
    have h3 := V_feedB h c (hn c (by simp))
    refine ih ((feedB r.1 c).1, r.2 ++ (feedB r.1 c).2) h3.1 (fun t ht => ?_) (fun n hm => hn n (by simp [hm]))
    rcases List.mem_append.1 ht with ht | ht
    · exact h2 t ht
    · exact h3.2 t ht
/-- Every token that a stream says can be. -/
theorem V_feedL {s : Ps} (h : V s) (l : List Nat) (hn : ∀ n ∈ l, n < 256) : V (feedL s l).1 ∧ ∀ t ∈ (feedL s l).2, t.kd ≠ 0 ∧ okT t := V_fold l (s, []) h (fun t ht => by cases ht) hn
/-- What is known of every token. -/
structure TokG (t : Tok) : Prop where
  chk : checkP t.kd t.cd t.mr t.ps t.it t.dt = 0
  cd : t.cd < 256
  it : t.it.size ≤ 3
  ps : t.ps.length ≤ 30
  dt : t.dt.length ≤ 4096
theorem tokG_of {t : Tok} (hk : t.kd ≠ 0) (h : okT t) : TokG t := by
  rcases h with h | ⟨h1, h2⟩
  · exact absurd h hk
  · have h3 : smallB t.ps t.it t.dt = true := by
      unfold checkP at h2
      cases hs : smallB t.ps t.it t.dt with
      | true => rfl
      | false => rw [hs] at h2; simp only [if_true] at h2; split at h2 <;> cases h2
    unfold smallB at h3
    simp only [Bool.and_eq_true, decide_eq_true_eq] at h3
    exact ⟨h2, h1, h3.1, h3.2.1, h3.2.2.1⟩
end Go.Proofs.YtfnamfkjbkhgeaaGreatDoor

namespace Go.Proofs.YtfnamfkjbkhgeaaGreatDoor

open Go Go.RowKit

section

variable {P : Program} (w : World)

theorem all_range_eqI : ∀ (xs ys : List Int), xs.length = ys.length → ((List.range xs.length).all fun i => xs.getD i 0 == ys.getD i 0) = (xs == ys)
  | [], [], _ => rfl
  | x :: xs, y :: ys, h => by
    have ih := all_range_eqI xs ys (by simpa using h)
    rw [List.length_cons, List.range_succ_eq_map, List.all_cons, List.all_map]
    simp only [List.getD_cons_zero, Function.comp_def, List.getD_cons_succ, ih]
    simp [List.cons_beq_cons]
  | [], _ :: _, h => by simp at h
  | _ :: _, [], h => by simp at h
theorem run_equalIn_intArr (d : Nat) (t e : TypeId) (n : Nat) (k : IntKind) {i : TypeInfo} (ht : P.underlying t = some (.array n e)) (he : P.underlying e = some (.int k)) (hi : P.info? e = some i) (hc : P.cellsOf e = 1)
    (xs ys : List Int) (hx : xs.length = n) (hy : ys.length = n) :
    (Op.equalIn (d + 2) t (.agg (xs.map (Value.int k)).toArray) (.agg (ys.map (Value.int k)).toArray)).run P w = .ok (xs == ys) w := by
  rw [← all_range_eqI xs ys (hx.trans hy.symm), hx, run_equalIn_array w (d + 1) _ _ ht hi, hc]
  have hl : ∀ i ∈ List.range n, i < n := fun i hi => List.mem_range.1 hi
  generalize List.range n = l at hl ⊢
  induction l with
  | nil => simp [Op.eqItems]
  | cons i l ih =>
    have hi : i < n := hl i (by simp)
    have px : (part e (xs.map (Value.int k)).toArray (i * 1)).run P w = .ok (.int k (xs.getD i 0)) w := by
      simp [part, isAgg, run_underlying he, List.getD, List.getElem?_eq_getElem (show i < xs.length by omega)]
    have py : (part e (ys.map (Value.int k)).toArray (i * 1)).run P w = .ok (.int k (ys.getD i 0)) w := by
      simp [part, isAgg, run_underlying he, List.getD, List.getElem?_eq_getElem (show i < ys.length by omega)]
    have pe : (Op.equalIn (d + 1) e (.int k (xs.getD i 0)) (.int k (ys.getD i 0))).run P w = .ok (xs.getD i 0 == ys.getD i 0) w := by
      rw [run_equalIn_int w d e k k _ _ he]
    simp only [Op.eqItems, Sem.run_bind, px, py, pe, Result.andThen_ok, List.all_cons]
    cases hb : (xs.getD i 0 == ys.getD i 0)
    · simp
    · simp only [Bool.not_true, Bool.false_eq_true, if_false, Bool.true_and]
      exact ih fun j hj => hl j (by simp [hj])
end

theorem apUnder : Tryz.prog.underlying 116 = some (.struct (Tryz.prog.fieldsOf 116)) := by kernel_rfl
theorem apArr : Tryz.prog.underlying 114 = some (.array 30 3) := by kernel_rfl
theorem apStood : Tryz.prog.stoodInHeld 116 = false := by kernel_rfl
theorem apGuard : Tryz.prog.eqGuardType Tryz.prog.depth 116 = false := by kernel_rfl
theorem apFields : (Tryz.prog.fieldsOf 116).toList.map (fun f => (f.name != "_", f.type, f.offset)) = [(true, 114, 0), (true, 3, 30)] := by kernel_rfl
theorem apInfo : ∃ i, Tryz.prog.info? 3 = some i := Option.isSome_iff_exists.1 (show (Tryz.prog.info? 3).isSome = true by kernel_rfl)
theorem apByte : ∃ i, Tryz.prog.info? 5 = some i := Option.isSome_iff_exists.1 (show (Tryz.prog.info? 5).isSome = true by kernel_rfl)
theorem apNums (W : World) (xs : Array Value) : (part 114 xs 0).run Tryz.prog W = .ok (.agg (xs.extract 0 30)) W := by kernel_rfl
theorem apCnt (W : World) (xs : Array Value) (v : Value) (h : xs[30]? = some v) : (part 3 xs 30).run Tryz.prog W = .ok v W := by simp [part, h]
theorem apSize : (Tryz.prog.info? 116).map (·.size) = some 31 := by kernel_rfl
theorem daUnder : Tryz.prog.underlying 119 = some (.array 4096 5) := by kernel_rfl
theorem daGuard : Tryz.prog.eqGuardType Tryz.prog.depth 119 = false := by kernel_rfl
theorem daSize : (Tryz.prog.info? 119).map (·.size) = some 4096 := by kernel_rfl
set_option maxRecDepth 100000 in
theorem eqAccP (W : World) (m : Nat) (s : Ps) : (Op.equalIn (m + 3) 116 (.agg s.acc.toArray) (.agg s.acc.toArray)).run Tryz.prog W = .ok true W := by
  rw [run_equalIn_struct W (m + 2) 116 _ _ apUnder apStood]
  obtain ⟨l, hl⟩ : ∃ l, (Tryz.prog.fieldsOf 116).toList = l := ⟨_, rfl⟩
  have hf := apFields
  rw [hl] at hf ⊢
  match l, hf with
  | [f0, f1], hf =>
    simp only [List.map_cons, List.map_nil, List.cons.injEq, Prod.mk.injEq, bne_iff_ne, and_true] at hf
    obtain ⟨⟨n0, t0, o0⟩, n1, t1, o1⟩ := hf
    obtain ⟨i, hi⟩ := apInfo
    have hx : s.acc.toArray.extract 0 30 = ((padF s.fs).map (Value.int .i64)).toArray := by
      unfold Ps.acc
      rw [List.extract_toArray, List.extract_eq_take_drop]
      simp only [List.drop_zero, Nat.sub_zero]
      rw [List.take_append_of_le_length (by rw [List.length_map, padF_len]; exact Nat.le_refl _), List.take_of_length_le (by rw [List.length_map, padF_len]; exact Nat.le_refl _)]
    have hc : s.acc.toArray[30]? = some (.int .i64 ((min s.fs.length 31 : Nat) : Int)) := by
      rw [List.getElem?_toArray]
      unfold Ps.acc
      rw [List.getElem?_append_right (by rw [List.length_map, padF_len]; exact Nat.le_refl _), List.length_map, padF_len]
      rfl
    have E1 : (Op.equalIn (m + 2) 114 (.agg ((padF s.fs).map (Value.int .i64)).toArray) (.agg ((padF s.fs).map (Value.int .i64)).toArray)).run Tryz.prog W = .ok true W := by
      rw [run_equalIn_intArr W m 114 3 30 .i64 apArr Tryz.underlying3 hi (by kernel_rfl) _ _ (padF_len _) (padF_len _)]
      simp
    have P1 := apCnt W s.acc.toArray _ hc
    simp only [Op.eqFields, t0, t1, o0, o1, n0, n1, ne_eq, not_false_eq_true, if_true, Sem.run_bind, apNums, hx, Result.andThen_ok, E1, Bool.not_true, if_false, P1, run_equalIn_int W (m + 1) 3 .i64 .i64 _ _ Tryz.underlying3, Bool.false_eq_true]
    simp
def datI (s : Ps) : List Int := s.ds.map (fun n : Nat => (n : Int)) ++ List.replicate (4096 - s.ds.length) 0
theorem dat_is (s : Ps) : s.dat = (datI s).map (Value.int .u8) := by simp [Ps.dat, datI, Function.comp_def]
theorem datI_len (s : Ps) (h : s.ds.length ≤ 4096) : (datI s).length = 4096 := by simp [datI]; omega
set_option maxRecDepth 100000 in
theorem eqDatP (W : World) (m : Nat) (s : Ps) (h : s.ds.length ≤ 4096) : (Op.equalIn (m + 2) 119 (.agg s.dat.toArray) (.agg s.dat.toArray)).run Tryz.prog W = .ok true W := by
  obtain ⟨i, hi⟩ := apByte
  rw [dat_is, run_equalIn_intArr W m 119 5 4096 .u8 daUnder Tryz.underlying5 hi (by kernel_rfl) _ _ (datI_len s h) (datI_len s h)]
  simp
theorem PsB.accAt {w : World} {g : Nat} {s : Ps} (h : PsB w g s) : w.rangeAt g 7 s.acc := fun j v hv => by
  have hj : j < 31 := by rw [← acc_len s]; exact (List.getElem?_eq_some_iff.1 hv).1
  exact h.at_ _ _ (by rw [cell_acc s j hj]; exact hv)
theorem PsB.datAt {w : World} {g : Nat} {s : Ps} (h : PsB w g s) : w.rangeAt g 40 s.dat := fun j v hv => by
  refine h.at_ _ _ ?_
  unfold Ps.cells
  rw [List.getElem?_append_right (by rw [beg_len]; omega), beg_len, Nat.add_sub_cancel_left]
  exact hv
theorem exec_load_midP {P : Program} {o : Oper} {a : Act} (T : TypeId) (x : Operand) (ho : o.op = .load T x) {g k : Nat} {cs : List Value} {w : World} {d : TypeDesc} (hx : a.eval x = .pointer (some ⟨g, k, none⟩))
    (hc : w.rangeAt g k cs) (hu : P.underlying T = some d) (hd : d.isRow = true) (hi : (P.info? T).map (·.size) = some cs.length) : (execOp a.eval o).run P w = .ok (.value (.agg cs.toArray)) w := by
  unfold execOp
  simp only [ho, hx, Instr.loadAt, Instr.sureAddr, Sem.run_bind, Sem.run_pure, Result.andThen_ok, run_loadVar_mid w g k T cs d hc hu hd hi]

/-- A parser's first cells, and whether it is void. -/
def Head (w : World) (g : Nat) (pl kd cd mr : Int) (it : ByteArray) (vo : Bool) : Prop :=
  w.cell? ⟨g, 0, none⟩ = some (.int .i64 pl) ∧ w.cell? ⟨g, 1, none⟩ = some (.int .i64 kd) ∧ w.cell? ⟨g, 2, none⟩ = some (.int .u8 cd) ∧ w.cell? ⟨g, 3, none⟩ = some (.int .u8 mr) ∧ w.cell? ⟨g, 4, none⟩ = some (.slice none 0 0) ∧ w.cell? ⟨g, 5, none⟩ = some (.string it) ∧ w.cell? ⟨g, 6, none⟩ = some (.slice none 0 0) ∧ w.cell? ⟨g, 39, none⟩ = some (.bool vo)
theorem PsB.head {w : World} {g : Nat} {s : Ps} (h : PsB w g s) : Head w g s.pl s.kd s.cd s.mr s.it s.vo :=
  ⟨h.at_ 0 _ rfl, h.at_ 1 _ rfl, h.at_ 2 _ rfl, h.at_ 3 _ rfl, h.at_ 4 _ rfl, h.at_ 5 _ rfl, h.at_ 6 _ rfl, h.at_ 39 _ (cell_void s)⟩


end Go.Proofs.YtfnamfkjbkhgeaaGreatDoor

namespace Go.Proofs.YtfnamfkjbkhgeaaGreatDoor

open Go Go.RowKit

def sameT (t u : Tok) : Bool := sameQ t.kd (t.cd : Int) (t.mr : Int) t.ps t.it t.dt u.kd (u.cd : Int) (u.mr : Int) u.ps u.it u.dt
theorem sameT_self (t : Tok) : sameT t t = true := by simp [sameT, sameQ]
def areP (ts us : List Tok) : Prop := ts.length = us.length ∧ ∀ (k : Nat) (_h1 : k < ts.length) (_h2 : k < us.length), sameT ts[k] us[k] = true
theorem areP_self (ts : List Tok) : areP ts ts := ⟨rfl, fun _ _ _ => sameT_self _⟩
theorem RTs.blt {w : World} {ts : List Tok} {ad : Addr} (h : RTs w (some ad) ts) (h0 : 0 < ts.length) : ad.block < w.heap.size := by
  obtain ⟨xs, h1, _⟩ := h
  obtain ⟨ad', e, hb, _⟩ := h1.2 h0
  injection e with e; subst e; exact hb
/-- A token's six cells. -/
def Six (w : World) (p : Addr) (k : Int) (c m : Nat) (v3 : Value) (s : ByteArray) (v5 : Value) : Prop :=
  w.cell? p = some (.int .i64 k) ∧ w.cell? ⟨p.block, p.off + 1, none⟩ = some (.int .u8 (c : Int)) ∧ w.cell? ⟨p.block, p.off + 2, none⟩ = some (.int .u8 (m : Int)) ∧ w.cell? ⟨p.block, p.off + 3, none⟩ = some v3 ∧ w.cell? ⟨p.block, p.off + 4, none⟩ = some (.string s) ∧ w.cell? ⟨p.block, p.off + 5, none⟩ = some v5
theorem Six.next {w w' : World} {p : Addr} {k : Int} {c m : Nat} {v3 v5 : Value} {s : ByteArray} (h : Six w p k c m v3 s v5) (hp : p.block < w.heap.size) (hb : Below w.heap.size w w') : Six w' p k c m v3 s v5 := by
  obtain ⟨h0, h1, h2, h3, h4, h5⟩ := h
  exact ⟨(hb.cell (p := p) hp).trans h0, (hb.cell (p := ⟨p.block, p.off + 1, none⟩) hp).trans h1, (hb.cell (p := ⟨p.block, p.off + 2, none⟩) hp).trans h2, (hb.cell (p := ⟨p.block, p.off + 3, none⟩) hp).trans h3, (hb.cell (p := ⟨p.block, p.off + 4, none⟩) hp).trans h4, (hb.cell (p := ⟨p.block, p.off + 5, none⟩) hp).trans h5⟩
theorem add_blk (ad : Addr) (n : Nat) : (ad.add n).block = ad.block := by unfold Addr.add; split <;> rfl
def Tok.szs (t : Tok) : Prop := t.ps.length ≤ maxLen

end Go.Proofs.YtfnamfkjbkhgeaaGreatDoor

namespace Go.Proofs.YtfnamfkjbkhgeaaGreatDoor

open Go Go.RowKit

theorem feedL_fold (l : List Nat) : ∀ (s : Ps) (a : List Tok), l.foldl (fun r c => ((feedB r.1 c).1, r.2 ++ (feedB r.1 c).2)) (s, a) = ((feedL s l).1, a ++ (feedL s l).2) := by
  induction l with
  | nil => intro s a; simp [feedL]
  | cons c l ih =>
    intro s a
    unfold feedL
    simp only [List.foldl_cons, List.nil_append]
    rw [ih, ih]
    simp [feedL]
theorem feedL_append (s : Ps) (l m : List Nat) : feedL s (l ++ m) = ((feedL (feedL s l).1 m).1, (feedL s l).2 ++ (feedL (feedL s l).1 m).2) := by
  rw [← feedL_fold m (feedL s l).1 (feedL s l).2]
  unfold feedL
  rw [List.foldl_append]
theorem feedL_nil (s : Ps) : feedL s [] = (s, []) := rfl
theorem feedL_split (s : Ps) (l : List Nat) (a b : Nat) (h : a ≤ b) : feedL s (l.take b) = ((feedL (feedL s (l.take a)).1 ((l.take b).drop a)).1, (feedL s (l.take a)).2 ++ (feedL (feedL s (l.take a)).1 ((l.take b).drop a)).2) := by
  have h2 : l.take b = l.take a ++ (l.take b).drop a := by
    have := List.take_append_drop a (l.take b)
    rw [List.take_take, Nat.min_eq_left h] at this
    exact this.symm
  rw [← feedL_append, ← h2]
theorem below_row {B : Nat} {w w1 w2 : World} {row : Option Nat} (h : Below B w w1) (hg : w1.grownBy w2 row) (hB : ∀ k, row = some k → B ≤ k) (hs : B ≤ w1.heap.size := by omega) : Below B w w2 :=
  ⟨hg.os.trans h.os, hg.tape.trans h.tape, hg.output.trans h.output, Nat.le_trans h.size hg.size, fun k hk => (hg.block k (Nat.lt_of_lt_of_le hk hs) (fun e => by have := hB k e.symm; omega)).trans (h.block k hk)⟩
theorem own_more {W W' : World} {b n s : Nat} {T : TypeId} {v : Value} {xs : List Value} (h : W.ownsRow b T s v n xs) (hb : Below W.heap.size W W') : W'.ownsRow b T s v n xs := by
  refine World.ownsRow.kept (row := none) h (grown_below hb) ?_
  rcases hk : v.ownBlock with _ | k
  · exact .inl rfl
  · exact .inr (fun e => by cases e)
theorem own_formS {W : World} {b n s : Nat} {T : TypeId} {v : Value} {xs : List Value} (h : W.ownsRow b T s v n xs) : ∃ A c, v = .slice A n c := by
  rcases h.2 with ⟨rfl, rfl⟩ | ⟨g, cap, cur, rfl, _⟩
  · exact ⟨none, 0, rfl⟩
  · exact ⟨_, _, rfl⟩
theorem own_ge {W : World} {b n s : Nat} {T : TypeId} {v : Value} {xs : List Value} (h : W.ownsRow b T s v n xs) : ∀ k, v.ownBlock = some k → b ≤ k := fun k hk => (World.ownsRow.lt h k hk).1
theorem OTl.app {w : World} {base : Nat} : ∀ {xs : List (Array Value)} {ts : List Tok} {ys : List (Array Value)} {us : List Tok}, OTl w base xs ts → OTl w base ys us → OTl w base (xs ++ ys) (ts ++ us)
  | [], [], _, _, _, h => h
  | _ :: _, _ :: _, _, _, h, h2 => ⟨h.1, OTl.app h.2 h2⟩
/-- Some tokens more. -/
theorem FdW.pushL {w W W' : World} {g : Nat} {r : Ps × List Tok} {u v : Value} {ts : List Tok} {xs ys : List (Array Value)} (h : FdW w W g r u) (ho : W.ownsRow w.heap.size 66 6 u r.2.length (xs.flatMap Array.toList)) (hl : OTl W w.heap.size xs r.2) (hY : OTl W w.heap.size ys ts)
    (hown : W'.ownsRow w.heap.size 66 6 v (r.2.length + ts.length) (xs.flatMap Array.toList ++ ys.flatMap Array.toList)) (hg : W.grownBy W' u.ownBlock) : FdW w W' g (r.1, r.2 ++ ts) v := by
  have hk : ∀ k, u.ownBlock = some k → w.heap.size ≤ k := own_ge ho
  have hpr : u.ownBlock ≠ some g := fun e => by have := hk g e; have := h.gl; omega
  refine ⟨⟨xs ++ ys, ?_, OTl.app (hl.keepR ho hg) (hY.keepR ho hg)⟩, ⟨(hg.block g h.prs.lt (fun e => hpr e.symm)).trans h.prs.blk, h.prs.ok⟩, ⟨hg.os.trans h.gro.os, hg.tape.trans h.gro.tape, hg.output.trans h.gro.output, Nat.le_trans h.gro.size hg.size, fun k hkl hn => (hg.block k (Nat.lt_of_lt_of_le hkl h.gro.size) (fun e => by have := hk k e.symm; omega)).trans (h.gro.block k hkl hn)⟩, h.pl, h.gl⟩
  rw [List.length_append, List.flatMap_append]
  exact hown
theorem rt_one : ∀ {w : World} {xs : List (Array Value)} {ts : List Tok} (_ : RTl w xs ts) (u : Value), u ∈ xs.flatMap Array.toList → u.oneCell' = true
  | _, [], [], _, u, hu => by simp at hu
  | w, x :: xs, t :: ts, h, u, hu => by
    obtain ⟨⟨A, c, B, d, e, _, _⟩, h3⟩ := h
    rw [List.flatMap_cons, List.mem_append] at hu
    rcases hu with hu | hu
    · subst e
      exact Array.all_eq_true_iff_forall_mem.1 (tk_cs_one t A c B d) u (by simpa using hu)
    · exact rt_one h3 u hu
theorem RTl.snoc {w : World} {x : Array Value} {t : Tok} (hx : ∃ A c B d, x = t.cs A c B d ∧ RInts w A t.ps ∧ RByt w B t.dt) : ∀ {xs : List (Array Value)} {ts : List Tok}, RTl w xs ts → RTl w (xs ++ [x]) (ts ++ [t])
  | [], [], _ => ⟨hx, trivial⟩
  | _ :: _, _ :: _, h => ⟨h.1, RTl.snoc hx h.2⟩
theorem RTl.len {w : World} : ∀ {xs : List (Array Value)} {ts : List Tok}, RTl w xs ts → xs.length = ts.length
  | [], [], _ => rfl
  | _ :: _, _ :: _, h => by simp [RTl.len h.2]



end Go.Proofs.YtfnamfkjbkhgeaaGreatDoor

namespace Go.Proofs.YtfnamfkjbkhgeaaGreatDoor

open Go Go.RowKit

theorem szs_feed (ms : List Nat) (hb : ∀ x ∈ ms, x < 256) : ∀ t ∈ (feedL ps0 ms).2, t.szs := fun t ht => by
  have h := (V_feedL V0 ms hb).2 t ht
  have := (tokG_of h.1 h.2).ps
  unfold Tok.szs maxLen
  omega
set_option maxRecDepth 100000 in
theorem run_sub (W : World) (A : Option Addr) (L cap a b : Nat) (h : a ≤ b) (hb : b ≤ cap) :
    (Instr.slice 63 (.slice A L cap) (some (.int .i64 (a : Int))) (some (.int .i64 (b : Int))) none).run Tryz.prog W = .ok (sliced A a b cap 1) W := by
  rw [run_slice_lh W _ A L cap Tryz.underlying63 .i64 .i64 (a : Int) (b : Int) (by omega) (by omega) (by omega)]
  have hs : (sizeOf (Tryz.prog.elem 63)).run Tryz.prog W = .ok 1 W := by kernel_rfl
  rw [hs]
  rfl
theorem RByt.sub {w : World} {A : Option Addr} {l : List Nat} (h : RByt w A l) {a b cap : Nat} (hab : a ≤ b) (hb : b ≤ l.length) (hc : l.length ≤ cap) : ∃ A' c', sliced A a b cap 1 = .slice A' ((l.take b).drop a).length c' ∧ RByt w A' ((l.take b).drop a) ∧ (∀ ad', A' = some ad' → 0 < ((l.take b).drop a).length → ∃ ad, A = some ad ∧ ad'.block = ad.block) ∧ ((l.take b).drop a).length ≤ c' := by
  have hlen : ((l.take b).drop a).length = b - a := by simp; omega
  refine ⟨if cap = a then A else A.map (·.add (a * 1)), cap - a, by rw [hlen]; rfl, ⟨by simp, fun h0 => ?_⟩, fun ad' e h0 => ?_, by omega⟩
  · rw [hlen] at h0
    obtain ⟨ad, rfl, hblk, hcell⟩ := h.2 (by omega)
    rw [if_neg (by omega)]
    refine ⟨ad.add (a * 1), rfl, by rw [add_blk]; exact hblk, fun j u hu => ?_⟩
    rw [add_of_add, Nat.mul_one]
    refine hcell _ _ ?_
    rw [List.map_drop, List.map_take, List.getElem?_drop, List.getElem?_take] at hu
    split at hu
    · exact hu
    · cases hu
  · rw [hlen] at h0
    obtain ⟨ad, rfl, _, _⟩ := h.2 (by omega)
    rw [if_neg (by omega)] at e
    simp only [Option.map_some, Option.some.injEq] at e
    subst e
    exact ⟨ad, rfl, add_blk _ _⟩
theorem rints_grown {w W : World} {A : Option Addr} {ns : List Int} {g : Nat} (h : RInts w A ns) (hg : w.grownBy W (some g)) (hA : ∀ ad, 0 < ns.length → A = some ad → ad.block ≠ g) : RInts W A ns := by
  refine ⟨h.1, fun hn => ?_⟩
  obtain ⟨ad, rfl, hb, hc⟩ := h.2 hn
  refine ⟨ad, rfl, Nat.lt_of_lt_of_le hb hg.size, fun j u hu => ?_⟩
  have hk := hg.block ad.block hb (by intro e; exact hA ad hn rfl (by simpa using e))
  have := hc j u hu
  unfold World.cell? at this ⊢
  rw [add_blk] at this ⊢
  rw [hk]
  exact this
theorem rbyt_grown' {w W : World} {A : Option Addr} {ns : List Nat} {g : Nat} (h : RByt w A ns) (hg : w.grownBy W (some g)) (hA : ∀ ad, 0 < ns.length → A = some ad → ad.block ≠ g) : RByt W A ns := by
  rcases Nat.eq_zero_or_pos ns.length with h0 | h0
  · exact ⟨h.1, fun hp => absurd hp (by omega)⟩
  · exact rbyt_grown h hg (fun ad e => hA ad h0 e)
theorem rints_blk {w : World} {A : Option Addr} {ns : List Int} (h : RInts w A ns) : ∀ ad, 0 < ns.length → A = some ad → ad.block < w.heap.size := fun ad h0 e => by
  obtain ⟨ad', e', hlt, _⟩ := h.2 h0
  rw [e] at e'; injection e' with e'; subst e'; exact hlt
theorem rbyt_blk {w : World} {A : Option Addr} {ns : List Nat} (h : RByt w A ns) : ∀ ad, 0 < ns.length → A = some ad → ad.block < w.heap.size := fun ad h0 e => by
  obtain ⟨ad', e', hlt, _⟩ := h.2 h0
  rw [e] at e'; injection e' with e'; subst e'; exact hlt
end Go.Proofs.YtfnamfkjbkhgeaaGreatDoor

namespace Go.Proofs.YtfnamfkjbkhgeaaGreatDoor

open Go Go.RowKit

def ctlX (c : Nat) : Array Value := #[.int .i64 2, .int .u8 (c : Int), .int .u8 0, .slice none 0 0, .string ⟨#[]⟩, .slice none 0 0]
def ctlR (C : List Nat) : List Value := (C.map ctlX).flatMap Array.toList
theorem ctlR_snoc (C : List Nat) (c : Nat) : ctlR (C ++ [c]) = ctlR C ++ (ctlX c).toList := by simp [ctlR]
theorem ctlR_app (C D : List Nat) : ctlR (C ++ D) = ctlR C ++ ctlR D := by simp [ctlR]
theorem ctl_own (w : World) (base : Nat) : ∀ C : List Nat, OTl w base (C.map ctlX) (C.map ctlT)
  | [] => trivial
  | c :: C => ⟨otkC w base c, ctl_own w base C⟩
theorem ctlX_one (c : Nat) : ∀ u ∈ (ctlX c).toList, u.oneCell' = true := by
  intro u hu
  simp only [ctlX, List.mem_cons, List.not_mem_nil, or_false] at hu
  rcases hu with rfl | rfl | rfl | rfl | rfl | rfl <;> rfl
theorem ctlR_one (C : List Nat) : ∀ u ∈ ctlR C, u.oneCell' = true := fun u hu => by
  unfold ctlR at hu
  obtain ⟨x, hx, hu⟩ := List.mem_flatMap.1 hu
  obtain ⟨c, _, rfl⟩ := List.mem_map.1 hx
  exact ctlX_one c u hu




theorem gb_of {w W W' : World} {row : Option Nat} (hb : Below w.heap.size w W) (hg : W.grownBy W' row) : w.grownBy W' row :=
  ⟨hg.os.trans hb.os, hg.tape.trans hb.tape, hg.output.trans hb.output, Nat.le_trans hb.size hg.size, fun k hk hn => (hg.block k (Nat.lt_of_lt_of_le hk hb.size) hn).trans (hb.block k hk)⟩
theorem gb_trans {w W W' : World} {row row' : Option Nat} (hg : w.grownBy W row) (hg' : W.grownBy W' row') (hr : row' = none ∨ row' = row ∨ ∀ k, row' = some k → w.heap.size ≤ k) : w.grownBy W' row :=
  ⟨hg'.os.trans hg.os, hg'.tape.trans hg.tape, hg'.output.trans hg.output, Nat.le_trans hg.size hg'.size, fun k hk hn => (hg'.block k (Nat.lt_of_lt_of_le hk hg.size) (by
    rcases hr with rfl | rfl | hr
    · simp
    · exact hn
    · intro e
      have := hr k e.symm
      omega)).trans (hg.block k hk hn)⟩
theorem gb_row {w W : World} {row : Option Nat} (h : w.grownBy W row) (g : Nat) (X : Array Value) (hg : w.heap.size ≤ g) : w.grownBy (W.setRow g X) row :=
  gb_trans h (grown_row W g X) (.inr (.inr (fun k hk => by cases hk; exact hg)))
theorem own_row {W : World} {b n s g : Nat} {T : TypeId} {v : Value} {xs : List Value} {X : Array Value} (h : W.ownsRow b T s v n xs) (hne : v.ownBlock ≠ some g) : (W.setRow g X).ownsRow b T s v n xs :=
  World.ownsRow.kept h (grown_row W g X) (.inr hne)

def brkB (c : Nat) : Bool := c == 24 || (c == 26 || c == 27)

def brkC (c : Nat) (C : List Nat) : List Nat := if c = 26 then C ++ [26] else C
def brkNx (c k : Nat) : Nat := if c = 24 ∨ c = 26 then k + 1 else k


end Go.Proofs.YtfnamfkjbkhgeaaGreatDoor

namespace Go.Proofs.YtfnamfkjbkhgeaaGreatDoor

open Go Go.RowKit

def plainC (c : Nat) : List Nat := if c = 0 ∨ c = 127 then [] else if 128 ≤ c ∧ c < 160 then [27, c - 64] else [c]
def plainL (l : List Nat) : List Nat := l.flatMap plainC
theorem plainL_snoc (l : List Nat) (c : Nat) : plainL (l ++ [c]) = plainL l ++ plainC c := by simp [plainL]
theorem plainC_len (c : Nat) : (plainC c).length ≤ 2 := by
  unfold plainC
  split
  · simp
  · split <;> simp
theorem plainL_len (l : List Nat) : (plainL l).length ≤ 2 * l.length := by
  induction l with
  | nil => exact Nat.le_refl _
  | cons c l ih =>
    have := plainC_len c
    unfold plainL at *
    rw [List.flatMap_cons, List.length_append, List.length_cons]
    omega
def u8s (l : List Nat) : List Value := l.map fun (n : Nat) => Value.int .u8 (n : Int)
theorem u8s_snoc (l m : List Nat) : u8s (l ++ m) = u8s l ++ u8s m := by simp [u8s]
theorem u8s_one (l : List Nat) : ∀ u ∈ u8s l, u.oneCell' = true := fun u hu => by
  obtain ⟨c, _, rfl⟩ := List.mem_map.1 hu
  rfl
/-- What is known in the midst of Plain. -/
def PlW (w W : World) (l : List Nat) (v : Value) : Prop := W.ownsRow w.heap.size 5 1 v l.length (u8s l) ∧ Below w.heap.size w W
theorem row_reads (W : World) (T : TypeId) (xs : List Value) (n sz : Nat) (hn : xs.length = n * sz) : Reads (W.alloc (.cells xs.toArray T)) (W.alloc (.cells xs.toArray T)).heap.size sz (some ⟨W.heap.size, 0, none⟩) n xs :=
  ⟨hn, fun _ => ⟨_, rfl, by simp, fun j u hu => by rw [add_here, (Blk.new W T xs.toArray).cell j, List.getElem?_toArray]; exact hu⟩⟩

end Go.Proofs.YtfnamfkjbkhgeaaGreatDoor

namespace Go.Proofs.YtfnamfkjbkhgeaaGreatDoor

open Go Go.RowKit

structure Hd where
  C : List Nat
  B : List Nat
  nx : Nat
  en : Nat
/-- A header, from a place on. -/
def hdrL (last : Nat) : List Nat → Nat → List Nat → List Nat → Hd
  | [], _, C, B => ⟨C, B, 0, 0⟩
  | c :: l, i, C, B =>
    if brkB c = true then ⟨C, B, i, 2⟩
    else if c < 32 then hdrL last l (i + 1) (C ++ [c]) B
    else if c % 128 = 127 then hdrL last l (i + 1) C B
    else if last ≤ c % 128 then ⟨C, B ++ [c % 128], i + 1, 1⟩
    else hdrL last l (i + 1) C (B ++ [c % 128])
theorem own_same {w w' : World} {base size n : Nat} {e : TypeId} {v : Value} {xs : List Value} (h : w.ownsRow base e size v n xs) (hk : ∀ k, v.ownBlock = some k → w'.heap[k]? = w.heap[k]?) : w'.ownsRow base e size v n xs := by
  refine ⟨h.1, ?_⟩
  rcases h.2 with hn | ⟨g, cap, cur, rfl, hb, hg, r⟩
  · exact .inl hn
  · exact .inr ⟨g, cap, cur, rfl, hb, (hk g rfl).trans hg, r⟩
theorem gb_weak {w W : World} {row : Option Nat} (b : Nat) (h : w.grownBy W row) (hr : row = none ∨ row = some b) : w.grownBy W (some b) := by
  rcases hr with rfl | rfl
  · exact ⟨h.os, h.tape, h.output, h.size, fun k hk _ => h.block k hk (by simp)⟩
  · exact h
theorem gb_set {w : World} (b i : Nat) (v : Value) : w.grownBy (w.setCell ⟨b, i, none⟩ v) (some b) :=
  ⟨rfl, rfl, rfl, by simp [World.setCell], fun k _ hn => Below.heap_setCell w ⟨b, i, none⟩ v k (fun e => hn (by rw [e]))⟩
theorem below_gb {B : Nat} {w w1 w2 : World} {g : Nat} (h : Below B w w1) (hg : w1.grownBy w2 (some g)) (hB : B ≤ g) (hs : B ≤ w1.heap.size) : Below B w w2 :=
  below_row h hg (fun k e => by cases e; exact hB) hs
def RowP (u : Value) : Prop := ∃ g, u = .slice (some ⟨g, 0, none⟩) 1 1
/-- A row that was just made. -/
def RowF (T : TypeId) (B : Nat) (xs : Array Value) (u : Value) (W : World) : Prop := ∃ g, u = .slice (some ⟨g, 0, none⟩) 1 1 ∧ B ≤ g ∧ Blk W g T xs
theorem rowF_stab (ks : Kinds) (wr : World) (T : TypeId) (xs : Array Value) (h : boxes ks = []) : ∀ v w w', Kept ks wr w w' → RowF T wr.heap.size xs v w → RowF T wr.heap.size xs v w' := by
  rintro v w w' hk ⟨g, e, hg, hb⟩
  exact ⟨g, e, hg, (hk.block g hb.lt hg (fun _ _ _ _ => by rw [h]; simp)).trans hb⟩
def LstP (n : Nat) (u : Value) : Prop := ∃ A c, u = .slice A n c
/-- A row of the call's own that was grown, out of what lay in block b. -/
def GrF (T : TypeId) (base sz n : Nat) (xs : List Value) (wr : World) (b : Nat) (z : Prop) (u : Value) (W : World) : Prop :=
  W.ownsRow base T sz u n xs ∧ (∀ k, u.ownBlock = some k → k = b ∨ wr.heap.size ≤ k) ∧ (z → W.heap[b]? = wr.heap[b]?)
theorem grF_stab (ks : Kinds) (wr : World) (T : TypeId) (base sz n : Nat) (xs : List Value) (b : Nat) (z : Prop) (h : boxes ks = []) : ∀ v w w', Kept ks wr w w' → w'.heap[b]? = w.heap[b]? → GrF T base sz n xs wr b z v w → GrF T base sz n xs wr b z v w' := by
  rintro v w w' hk hb ⟨h1, h2, h3⟩
  refine ⟨own_same h1 (fun k e => ?_), h2, fun hz => hb.trans (h3 hz)⟩
  rcases h2 k e with rfl | h4
  · exact hb
  · exact hk.block k (World.ownsRow.lt h1 k e).2 h4 (fun _ _ _ _ => by rw [h]; simp)


theorem hd4 {W : World} {b : Nat} {T : TypeId} {x y u v : Value} (h : Blk W b T #[x, y, u, v]) : W.cell? ⟨b, 0, none⟩ = some x ∧ W.cell? ⟨b, 1, none⟩ = some y ∧ W.cell? ⟨b, 2, none⟩ = some u ∧ W.cell? ⟨b, 3, none⟩ = some v ∧ W.frozen? ⟨b, 0, none⟩ = false ∧ W.frozen? ⟨b, 1, none⟩ = false ∧ W.frozen? ⟨b, 2, none⟩ = false ∧ W.frozen? ⟨b, 3, none⟩ = false :=
  ⟨h.cell 0, h.cell 1, h.cell 2, h.cell 3, h.frozen 0, h.frozen 1, h.frozen 2, h.frozen 3⟩
def hdZ : Array Value := #[.slice none 0 0, .slice none 0 0, .int .i64 0, .int .i64 0]







end Go.Proofs.YtfnamfkjbkhgeaaGreatDoor

namespace Go.Proofs.YtfnamfkjbkhgeaaGreatDoor

open Go Go.RowKit

theorem hdrL_cons (last : Nat) (s : List Nat) (k : Nat) (h : k < s.length) (C B : List Nat) : hdrL last (s.drop k) k C B =
    if brkB s[k] = true then ⟨C, B, k, 2⟩
    else if s[k] < 32 then hdrL last (s.drop (k + 1)) (k + 1) (C ++ [s[k]]) B
    else if s[k] % 128 = 127 then hdrL last (s.drop (k + 1)) (k + 1) C B
    else if last ≤ s[k] % 128 then ⟨C, B ++ [s[k] % 128], k + 1, 1⟩
    else hdrL last (s.drop (k + 1)) (k + 1) C (B ++ [s[k] % 128]) := by
  rw [List.drop_eq_getElem_cons h]
  rfl

end Go.Proofs.YtfnamfkjbkhgeaaGreatDoor

namespace Go.Proofs.YtfnamfkjbkhgeaaGreatDoor

open Go Go.RowKit
set_option maxRecDepth 100000

/-- How many there are ahead of the first byte below 48. -/
def cntP : List Nat → Nat
  | [] => 0
  | c :: l => if 48 ≤ c then cntP l + 1 else 0
theorem cnt_yes {c : Nat} (l : List Nat) (h : 48 ≤ c) : cntP (c :: l) = cntP l + 1 := if_pos h
theorem cnt_no {c : Nat} (l : List Nat) (h : ¬ 48 ≤ c) : cntP (c :: l) = 0 := if_neg h
theorem cnt_le : ∀ l : List Nat, cntP l ≤ l.length
  | [] => Nat.le_refl _
  | c :: l => by
    have := cnt_le l
    unfold cntP
    split
    · simpa using this
    · exact Nat.zero_le _
theorem cnt_lt : ∀ (l : List Nat) (k : Nat) (h : k < l.length), k < cntP l → 48 ≤ l[k]
  | [], _, h, _ => by simp at h
  | c :: l, 0, _, hk => by
    unfold cntP at hk
    split at hk
    · assumption
    · omega
  | c :: l, k + 1, h, hk => by
    unfold cntP at hk
    split at hk
    · exact cnt_lt l k (by simpa using h) (by omega)
    · omega
theorem cnt_at : ∀ (l : List Nat) (h : cntP l < l.length), l[cntP l] < 48
  | [], h => by simp at h
  | c :: l, h => by
    by_cases hc : 48 ≤ c
    · have e : cntP (c :: l) = cntP l + 1 := cnt_yes l hc
      have := cnt_at l (by rw [e] at h; simpa using h)
      simp only [e]
      simpa using this
    · have e : cntP (c :: l) = 0 := cnt_no l hc
      simp only [e]
      simp; omega
theorem cnt_step {l : List Nat} {k : Nat} (h : k < l.length) (hk : k ≤ cntP l) (hc : 48 ≤ l[k]) : k + 1 ≤ cntP l := by
  rcases Nat.lt_or_ge k (cntP l) with h1 | h1
  · exact h1
  · obtain rfl : k = cntP l := by omega
    have := cnt_at l h
    omega
theorem cnt_end {l : List Nat} {k : Nat} (h : k < l.length) (hk : k ≤ cntP l) (hc : ¬ 48 ≤ l[k]) : k = cntP l := by
  rcases Nat.lt_or_ge k (cntP l) with h1 | h1
  · exact absurd (cnt_lt l k h h1) hc
  · omega
/-- The mark, and what stands behind it. -/
def markP (b : List Nat) : Nat × List Nat := match b with
  | [] => (0, [])
  | m :: r => if 60 ≤ m ∧ m ≤ 63 then (m, r) else (0, m :: r)
theorem mark_nil {b : List Nat} (h : ¬ 0 < b.length) : markP b = (0, b) := by
  cases b with
  | nil => rfl
  | cons m r => simp at h
theorem mark_cons (m : Nat) (r : List Nat) : markP (m :: r) = if 60 ≤ m ∧ m ≤ 63 then (m, r) else (0, m :: r) := rfl
theorem mark_yes {b : List Nat} (h : 0 < b.length) (h1 : 60 ≤ b[0] ∧ b[0] ≤ 63) : markP b = (b[0], b.drop 1) := by
  cases b with
  | nil => simp at h
  | cons m r => rw [mark_cons, if_pos (show 60 ≤ m ∧ m ≤ 63 from h1)]; rfl
theorem mark_no {b : List Nat} (h : 0 < b.length) (h1 : ¬ (60 ≤ b[0] ∧ b[0] ≤ 63)) : markP b = (0, b) := by
  cases b with
  | nil => simp at h
  | cons m r => rw [mark_cons, if_neg (show ¬ (60 ≤ m ∧ m ≤ 63) from h1)]
def low48 (l : List Nat) : Bool := l.all fun c => decide (c < 48)
/-- A header's bytes, read: the token, and is it good? -/
def parsP (kd : Int) (b : List Nat) : Tok × Bool :=
  let m := markP b.dropLast
  let n := cntP m.2
  let p := parseV (bstr (m.2.take n)).data.toList
  (⟨kd, b.getLastD 0, m.1, p.1, bstr (m.2.drop n), []⟩, decide (p.2 = 0) && (decide ((m.2.drop n).length ≤ 3) && low48 (m.2.drop n)))
theorem size_is {W : World} (A : Option Addr) (cap a b : Nat) : (((sizeOf (Tryz.prog.elem 63)).run Tryz.prog W).andThen fun s w => (.ok (sliced A a b cap s) w : Result Value)) = .ok (sliced A a b cap 1) W := by
  have hs : (sizeOf (Tryz.prog.elem 63)).run Tryz.prog W = .ok 1 W := by kernel_rfl
  rw [hs]
  rfl
/-- The first ones. -/
theorem RByt.firsts {w : World} {A : Option Addr} {l : List Nat} (h : RByt w A l) {n cap : Nat} (hn : n ≤ l.length) (hc : l.length ≤ cap) : ∃ A' c', (∀ W, (Instr.slice 63 (.slice A l.length cap) none (some (.int .i64 (n : Int))) none).run Tryz.prog W = .ok (.slice A' (l.take n).length c') W) ∧ RByt w A' (l.take n) ∧ (l.take n).length ≤ c' := by
  obtain ⟨A', c', h1, h2, _, h4⟩ := h.sub (a := 0) (b := n) (cap := cap) (by omega) hn hc
  rw [List.drop_zero] at h1 h2 h4
  refine ⟨A', c', fun W => ?_, h2, h4⟩
  rw [run_slice_h W _ A l.length cap Tryz.underlying63 .i64 (n : Int) (by omega) (by omega), ← h1]
  exact size_is A cap 0 n
/-- Those behind the first ones. -/
theorem RByt.rest {w : World} {A : Option Addr} {l : List Nat} (h : RByt w A l) {n cap : Nat} (hn : n ≤ l.length) (hc : l.length ≤ cap) : ∃ A' c', (∀ W, (Instr.slice 63 (.slice A l.length cap) (some (.int .i64 (n : Int))) none none).run Tryz.prog W = .ok (.slice A' (l.drop n).length c') W) ∧ RByt w A' (l.drop n) ∧ (l.drop n).length ≤ c' := by
  obtain ⟨A', c', h1, h2, _, h4⟩ := h.sub (a := n) (b := l.length) (cap := cap) hn (Nat.le_refl _) hc
  rw [List.take_length] at h1 h2 h4
  refine ⟨A', c', fun W => ?_, h2, h4⟩
  rw [run_slice_l W _ A l.length cap Tryz.underlying63 .i64 (n : Int) (by omega) (by omega), ← h1]
  exact size_is A cap n l.length
theorem RByt.low {w W : World} {A : Option Addr} {l : List Nat} (h : RByt w A l) (hb : Below w.heap.size w W) : RByt W A l := h.next hb
theorem results_row_tmpP {P : Program} {fn : Func} {p q : Tmp} {ty : TypeId} (h : fn.results = #[.cell p ty, .tmp q]) (tmps : Array Value) (w : World) (g : Nat) (t : TypeId) (cs : Array Value) (fr : Nat × Nat) (d : TypeDesc)
    (hp : tmps.getD p undef = .pointer (some ⟨g, 0, none⟩)) (hg : w.heap[g]? = some (.cells cs t fr))
    (hu : P.underlying ty = some d) (hd : (match d with | .struct _ | .array _ _ => true | _ => false) = true) (hi : (P.info? ty).map (·.size) = some cs.size) :
    (results fn tmps).run P w = .ok (.tuple #[.agg cs, tmps.getD q undef]) w := by
  have hp' : tmps[p]?.getD undef = .pointer (some ⟨g, 0, none⟩) := by simpa using hp
  simp [results, h, hp', asAddr, run_loadVar_row w g t ty cs fr d hg hu hd hi]



/-- What it answers. -/
def PaQ (w w' : World) (r : Tok × Bool) (e : Ending) : Prop := ∃ A c, e = .returned (.tuple #[.agg #[.int .i64 r.1.kd, .int .u8 (r.1.cd : Int), .int .u8 (r.1.mr : Int), .slice A r.1.ps.length c, .string r.1.it, .slice none 0 0], .bool r.2]) ∧ OInts w' w.heap.size (.slice A r.1.ps.length c) r.1.ps ∧ Below w.heap.size w w'
theorem low_snoc (l : List Nat) (c : Nat) : low48 (l ++ [c]) = (low48 l && decide (c < 48)) := by simp [low48]
theorem take_drop_snoc (l : List Nat) (n i : Nat) (hn : n ≤ i) (hi : i < l.length) : (l.take (i + 1)).drop n = (l.take i).drop n ++ [l[i]] := by
  rw [List.take_succ_eq_append_getElem hi, List.drop_append_of_le_length (by simp; omega)]
end Go.Proofs.YtfnamfkjbkhgeaaGreatDoor

namespace Go.Proofs.YtfnamfkjbkhgeaaGreatDoor

open Go Go.RowKit
set_option maxRecDepth 100000

theorem RByt.pre {w : World} {A : Option Addr} {l : List Nat} (h : RByt w A l) (n : Nat) : RByt w A (l.take n) := by
  refine ⟨by simp, fun h0 => ?_⟩
  obtain ⟨ad, rfl, hb, hc⟩ := h.2 (by simp at h0; omega)
  refine ⟨ad, rfl, hb, fun j u hu => hc j u ?_⟩
  rw [List.map_take, List.getElem?_take] at hu
  split at hu
  · exact hu
  · cases hu
theorem ad_zero (ad : Addr) : ad.add 0 = ad := by
  unfold Addr.add
  split <;> simp_all
theorem PaQ.of {w W : World} {kd : Int} {b : List Nat} {A : Option Addr} {c : Nat} {r : Tok × Bool} (X : Array Value) (e : Ending) (hb : Below w.heap.size w W) (hl : OInts W (w.heap.size + 2) (.slice A r.1.ps.length c) r.1.ps) (hr : parsP kd b = r)
    (he : e = .returned (.tuple #[.agg #[.int .i64 r.1.kd, .int .u8 (r.1.cd : Int), .int .u8 (r.1.mr : Int), .slice A r.1.ps.length c, .string r.1.it, .slice none 0 0], .bool r.2])) : PaQ w (W.setRow w.heap.size X) (parsP kd b) e := by
  rw [hr]
  exact ⟨A, c, he, own_base (own_row (oints_own hl) (fun e => by have := own_ge (oints_own hl) _ e; omega)) (by omega), below_gb hb (grown_row W w.heap.size X) (Nat.le_refl _) hb.size⟩

end Go.Proofs.YtfnamfkjbkhgeaaGreatDoor

namespace Go.Proofs.YtfnamfkjbkhgeaaGreatDoor

open Go Go.RowKit
set_option maxRecDepth 100000

/-- How a string ends: its bytes, the place behind it (-1: it hasn't ended), what ended it: 0 nothing, 1 its end, 2 a byte that breaks. -/
structure St where
  D : List Nat
  nx : Int
  how : Nat
  br : Nat
def strL (osc : Bool) : List Nat → Nat → List Nat → St
  | [], _, D => ⟨D, -1, 0, 0⟩
  | c :: l, i, D =>
    if c = 27 then (match l with
      | [] => ⟨D, -1, 0, 0⟩
      | x :: _ => if x % 128 = 92 then ⟨D, ((i + 2 : Nat) : Int), 1, 0⟩ else ⟨D, (i : Int), 2, 27⟩)
    else if c = 7 ∧ osc = true then ⟨D, ((i + 1 : Nat) : Int), 1, 0⟩
    else if brkB c = true then ⟨D, (brkNx c i : Nat), 2, c⟩
    else strL osc l (i + 1) (if dataB c = true then D ++ [c] else D)
theorem strL_end (osc : Bool) (s : List Nat) (k : Nat) (h : k + 1 = s.length) (h27 : s[k] = 27) (D : List Nat) : strL osc (s.drop k) k D = ⟨D, -1, 0, 0⟩ := by
  have hd : s.drop (k + 1) = [] := List.drop_of_length_le (by omega)
  rw [List.drop_eq_getElem_cons (by omega), hd, h27]
  rfl
theorem strL_esc (osc : Bool) (s : List Nat) (k : Nat) (h : k + 1 < s.length) (h27 : s[k] = 27) (D : List Nat) : strL osc (s.drop k) k D = if s[k + 1] % 128 = 92 then ⟨D, ((k + 2 : Nat) : Int), 1, 0⟩ else ⟨D, (k : Int), 2, 27⟩ := by
  rw [List.drop_eq_getElem_cons (by omega), List.drop_eq_getElem_cons h, h27]
  rfl
theorem strL_cons (osc : Bool) (s : List Nat) (k : Nat) (h : k < s.length) (h27 : s[k] ≠ 27) (D : List Nat) : strL osc (s.drop k) k D =
    if s[k] = 7 ∧ osc = true then ⟨D, ((k + 1 : Nat) : Int), 1, 0⟩
    else if brkB s[k] = true then ⟨D, (brkNx s[k] k : Nat), 2, s[k]⟩
    else strL osc (s.drop (k + 1)) (k + 1) (if dataB s[k] = true then D ++ [s[k]] else D) := by
  rw [List.drop_eq_getElem_cons h]
  show (if s[k] = 27 then _ else _) = _
  rw [if_neg h27]
/-- What it is, with what was said ahead of it. -/
def strT (t : Tok) (good : Bool) (r : St) (C : List Nat) : List Tok :=
  if r.how = 1 then C.map ctlT ++ (if (good && decide (r.D.length ≤ 4096)) = true then [{t with dt := r.D}] else []) else (if r.how = 2 then brkC r.br C else C).map ctlT


theorem own_ty {w : World} {b n sz g : Nat} {T U : TypeId} {v : Value} {xs : List Value} {cs : Array Value} (h : w.ownsRow b T sz v n xs) (hb : Blk w g U cs) (hT : T ≠ U) : v.ownBlock ≠ some g := fun e => by
  rcases h.2 with ⟨rfl, _⟩ | ⟨g1, cap, cur, rfl, _, hg, _⟩
  · simp [Value.ownBlock] at e
  · obtain rfl : g1 = g := by simpa [Value.ownBlock] using e
    rw [show w.heap[g1]? = some (.cells cs U (0, 0)) from hb] at hg
    injection hg with hg
    injection hg with _ hg _
    exact hT hg.symm

def ptZ : Array Value := #[.slice none 0 0, .int .i64 0]

section

variable {w W W' : World} {kd : Int} {cd mr : Nat} {p : Value} {it : ByteArray} {D : List Nat} {v5 : Value}








end

end Go.Proofs.YtfnamfkjbkhgeaaGreatDoor

namespace Go.Proofs.YtfnamfkjbkhgeaaGreatDoor

open Go Go.RowKit
set_option maxRecDepth 100000


end Go.Proofs.YtfnamfkjbkhgeaaGreatDoor

namespace Go.Proofs.YtfnamfkjbkhgeaaGreatDoor

open Go Go.RowKit
set_option maxRecDepth 100000

theorem hdr_facts (last N : Nat) : ∀ (l : List Nat) (i : Nat) (C B : List Nat), i + l.length = N → (∀ x ∈ B, x < 128) →
    ((hdrL last l i C B).en = 0 ∨ ((hdrL last l i C B).en = 2 ∧ (hdrL last l i C B).nx < N) ∨ ((hdrL last l i C B).en = 1 ∧ (hdrL last l i C B).nx ≤ N ∧ 0 < (hdrL last l i C B).B.length)) ∧ (hdrL last l i C B).C.length ≤ C.length + l.length ∧ (hdrL last l i C B).B.length ≤ B.length + l.length ∧ (∀ x ∈ (hdrL last l i C B).B, x < 128) := by
  intro l
  induction l with
  | nil => intro i C B _ hB; exact ⟨.inl rfl, Nat.le_refl _, Nat.le_refl _, hB⟩
  | cons c l ih =>
    intro i C B hN hB
    have hN' : i + 1 + l.length = N := by simp at hN; omega
    have hBc : ∀ x ∈ B ++ [c % 128], x < 128 := fun x hx => by
      rcases List.mem_append.1 hx with h | h
      · exact hB x h
      · obtain rfl : x = c % 128 := by simpa using h
        exact Nat.mod_lt _ (by decide)
    unfold hdrL
    by_cases h1 : brkB c = true
    · rw [if_pos h1]
      exact ⟨.inr (.inl ⟨rfl, by show i < N; omega⟩), by show C.length ≤ _; omega, by show B.length ≤ _; omega, hB⟩
    rw [if_neg h1]
    by_cases h2 : c < 32
    · rw [if_pos h2]
      obtain ⟨q1, q2, q3, q4⟩ := ih (i + 1) (C ++ [c]) B hN' hB
      exact ⟨q1, by simp at q2 ⊢; omega, by simp at q3 ⊢; omega, q4⟩
    rw [if_neg h2]
    by_cases h3 : c % 128 = 127
    · rw [if_pos h3]
      obtain ⟨q1, q2, q3, q4⟩ := ih (i + 1) C B hN' hB
      exact ⟨q1, by simp at q2 ⊢; omega, by simp at q3 ⊢; omega, q4⟩
    rw [if_neg h3]
    by_cases h4 : last ≤ c % 128
    · rw [if_pos h4]
      exact ⟨.inr (.inr ⟨rfl, by show i + 1 ≤ N; omega, by show 0 < (B ++ [c % 128]).length; simp⟩), by show C.length ≤ _; omega, by show (B ++ [c % 128]).length ≤ _; simp, hBc⟩
    · rw [if_neg h4]
      obtain ⟨q1, q2, q3, q4⟩ := ih (i + 1) C (B ++ [c % 128]) hN' hBc
      exact ⟨q1, by simp at q2 ⊢; omega, by simp at q3 ⊢; omega, q4⟩
structure HdF (N : Nat) (h : Hd) : Prop where
  en : h.en = 0 ∨ (h.en = 2 ∧ h.nx < N) ∨ (h.en = 1 ∧ h.nx ≤ N ∧ 0 < h.B.length)
  C : h.C.length ≤ N
  B : h.B.length ≤ N
  b : ∀ x ∈ h.B, x < 128
theorem hdrF (last : Nat) (s : List Nat) (k : Nat) (hk : k ≤ s.length) : HdF s.length (hdrL last (s.drop k) k [] []) := by
  obtain ⟨q1, q2, q3, q4⟩ := hdr_facts last s.length (s.drop k) k [] [] (by simp; omega) (by simp)
  exact ⟨q1, by simp at q2; omega, by simp at q3; omega, q4⟩
/-- What is behind the first header. -/
def seqB (s : List Nat) (kd : Nat) (C : List Nat) (nx : Nat) : List Tok × Int :=
  let g := hdrL 64 (s.drop nx) nx [] []
  if g.en = 0 then ((C ++ g.C).map ctlT, -1)
  else if g.en = 2 then ((brkC (s.getD g.nx 0) (C ++ g.C)).map ctlT, (brkNx (s.getD g.nx 0) g.nx : Nat))
  else
    let p := parsP (kd : Int) g.B
    if kd = 5 then (strT p.1 p.2 (strL ((kd : Int) == 6) (s.drop g.nx) g.nx []) (C ++ g.C), (strL ((kd : Int) == 6) (s.drop g.nx) g.nx []).nx)
    else ((C ++ g.C).map ctlT ++ (if p.2 = true then [p.1] else []), (g.nx : Int))
/-- What begins with the escape ahead of a place: what it says, and the place behind it. -/
def seqP (s : List Nat) (k : Nat) : List Tok × Int :=
  let h := hdrL 48 (s.drop k) k [] []
  if h.en = 0 then (h.C.map ctlT, -1)
  else if h.en = 2 then ((brkC (s.getD h.nx 0) h.C).map ctlT, (brkNx (s.getD h.nx 0) h.nx : Nat))
  else
    let n := h.B.length - 1
    let c := h.B.getD n 0
    let kd := begunP c
    if 0 < n ∨ kd = 0 then (h.C.map ctlT ++ (if n ≤ 3 ∧ (0 < n ∨ c ≠ 92) then [⟨3, c, 0, [], bstr (h.B.take n), []⟩] else []), (h.nx : Int))
    else if 5 < kd then (strT ⟨(kd : Int), 0, 0, [], ⟨#[]⟩, []⟩ true (strL ((kd : Int) == 6) (s.drop h.nx) h.nx []) h.C, (strL ((kd : Int) == 6) (s.drop h.nx) h.nx []).nx)
    else seqB s kd h.C h.nx








end Go.Proofs.YtfnamfkjbkhgeaaGreatDoor

namespace Go.Proofs.YtfnamfkjbkhgeaaGreatDoor

open Go Go.RowKit
set_option maxRecDepth 100000

def seqA (s : List Nat) (h : Hd) : List Tok × Int :=
  if h.en = 0 then (h.C.map ctlT, -1)
  else if h.en = 2 then ((brkC (s.getD h.nx 0) h.C).map ctlT, (brkNx (s.getD h.nx 0) h.nx : Nat))
  else if 0 < h.B.length - 1 ∨ begunP (h.B.getD (h.B.length - 1) 0) = 0 then (h.C.map ctlT ++ (if h.B.length - 1 ≤ 3 ∧ (0 < h.B.length - 1 ∨ h.B.getD (h.B.length - 1) 0 ≠ 92) then [⟨3, h.B.getD (h.B.length - 1) 0, 0, [], bstr (h.B.take (h.B.length - 1)), []⟩] else []), (h.nx : Int))
  else if 5 < begunP (h.B.getD (h.B.length - 1) 0) then (strT ⟨(begunP (h.B.getD (h.B.length - 1) 0) : Int), 0, 0, [], ⟨#[]⟩, []⟩ true (strL ((begunP (h.B.getD (h.B.length - 1) 0) : Int) == 6) (s.drop h.nx) h.nx []) h.C, (strL ((begunP (h.B.getD (h.B.length - 1) 0) : Int) == 6) (s.drop h.nx) h.nx []).nx)
  else seqB s (begunP (h.B.getD (h.B.length - 1) 0)) h.C h.nx
theorem seqP_eq (s : List Nat) (k : Nat) : seqP s k = seqA s (hdrL 48 (s.drop k) k [] []) := rfl
theorem getD_at (s : List Nat) (k : Nat) (h : k < s.length) : s.getD k 0 = s[k] := by simp [List.getD, h]



end Go.Proofs.YtfnamfkjbkhgeaaGreatDoor

namespace Go.Proofs.YtfnamfkjbkhgeaaGreatDoor

open Go Go.RowKit
set_option maxRecDepth 100000

theorem hdr_lo (last : Nat) : ∀ (l : List Nat) (i : Nat) (C B : List Nat), (hdrL last l i C B).en = 0 ∨ ((hdrL last l i C B).en = 2 ∧ i ≤ (hdrL last l i C B).nx) ∨ ((hdrL last l i C B).en = 1 ∧ i < (hdrL last l i C B).nx) := by
  intro l
  induction l with
  | nil => intro i C B; exact .inl rfl
  | cons c l ih =>
    intro i C B
    have step : ∀ C' B', (hdrL last l (i + 1) C' B').en = 0 ∨ ((hdrL last l (i + 1) C' B').en = 2 ∧ i ≤ (hdrL last l (i + 1) C' B').nx) ∨ ((hdrL last l (i + 1) C' B').en = 1 ∧ i < (hdrL last l (i + 1) C' B').nx) := fun C' B' => by
      rcases ih (i + 1) C' B' with h | ⟨h, h2⟩ | ⟨h, h2⟩
      · exact .inl h
      · exact .inr (.inl ⟨h, by omega⟩)
      · exact .inr (.inr ⟨h, by omega⟩)
    unfold hdrL
    by_cases h1 : brkB c = true
    · rw [if_pos h1]; exact .inr (.inl ⟨rfl, Nat.le_refl _⟩)
    rw [if_neg h1]
    by_cases h2 : c < 32
    · rw [if_pos h2]; exact step _ _
    rw [if_neg h2]
    by_cases h3 : c % 128 = 127
    · rw [if_pos h3]; exact step _ _
    rw [if_neg h3]
    by_cases h4 : last ≤ c % 128
    · rw [if_pos h4]; exact .inr (.inr ⟨rfl, Nat.lt_succ_self i⟩)
    · rw [if_neg h4]; exact step _ _
theorem brkNx_lo (c k : Nat) : k ≤ brkNx c k ∧ brkNx c k ≤ k + 1 := by unfold brkNx; split <;> omega
theorem str_next (osc : Bool) (N : Nat) : ∀ (l : List Nat) (i : Nat) (D : List Nat), i + l.length = N → (strL osc l i D).nx < 0 ∨ ((i : Int) ≤ (strL osc l i D).nx ∧ (strL osc l i D).nx ≤ (N : Int)) := by
  intro l
  induction l with
  | nil => intro i D _; exact .inl (by show (-1 : Int) < 0; decide)
  | cons c l ih =>
    intro i D hN
    have hN' : i + 1 + l.length = N := by simp at hN; omega
    unfold strL
    by_cases h1 : c = 27
    · rw [if_pos h1]
      cases l with
      | nil => exact .inl (by show (-1 : Int) < 0; decide)
      | cons x l =>
        simp at hN'
        by_cases h2 : x % 128 = 92
        · simp only [if_pos h2]; exact .inr ⟨by omega, by omega⟩
        · simp only [if_neg h2]; exact .inr ⟨by omega, by omega⟩
    rw [if_neg h1]
    by_cases h2 : c = 7 ∧ osc = true
    · rw [if_pos h2]; exact .inr ⟨by show (i : Int) ≤ ((i + 1 : Nat) : Int); omega, by show ((i + 1 : Nat) : Int) ≤ _; omega⟩
    rw [if_neg h2]
    by_cases h3 : brkB c = true
    · rw [if_pos h3]
      have := brkNx_lo c i
      exact .inr ⟨by show (i : Int) ≤ ((brkNx c i : Nat) : Int); omega, by show ((brkNx c i : Nat) : Int) ≤ _; omega⟩
    rw [if_neg h3]
    rcases ih (i + 1) (if dataB c = true then D ++ [c] else D) hN' with h | ⟨h, h'⟩
    · exact .inl h
    · exact .inr ⟨by omega, h'⟩
theorem hdr_at {last : Nat} {s : List Nat} {k : Nat} (hk : k ≤ s.length) {h : Hd} (e : h = hdrL last (s.drop k) k [] []) : h.en = 0 ∨ (h.en = 2 ∧ k ≤ h.nx ∧ h.nx < s.length) ∨ (h.en = 1 ∧ k < h.nx ∧ h.nx ≤ s.length ∧ 0 < h.B.length) := by
  have h1 := hdr_lo last (s.drop k) k [] []
  have h2 := (hdrF last s k hk).en
  rw [← e] at h1 h2
  omega
theorem seqB_next (s : List Nat) (kd : Nat) (C : List Nat) (nx : Nat) (hn : nx ≤ s.length) : (seqB s kd C nx).2 < 0 ∨ ((nx : Int) ≤ (seqB s kd C nx).2 ∧ (seqB s kd C nx).2 ≤ (s.length : Int)) := by
  have h := hdr_at hn (last := 64) rfl
  unfold seqB
  generalize hdrL 64 (s.drop nx) nx [] [] = g at *
  dsimp only
  rcases h with h | ⟨h, h1, h2⟩ | ⟨h, h1, h2, _⟩
  · rw [if_pos h]; exact .inl (by show (-1 : Int) < 0; decide)
  · rw [if_neg (by omega), if_pos h]
    have := brkNx_lo (s.getD g.nx 0) g.nx
    exact .inr ⟨by show (nx : Int) ≤ ((brkNx (s.getD g.nx 0) g.nx : Nat) : Int); omega, by show ((brkNx (s.getD g.nx 0) g.nx : Nat) : Int) ≤ _; omega⟩
  · rw [if_neg (by omega), if_neg (by omega)]
    split
    · rcases str_next ((kd : Int) == 6) s.length (s.drop g.nx) g.nx [] (by simp; omega) with q | ⟨q, q'⟩
      · exact .inl q
      · exact .inr ⟨by show (nx : Int) ≤ (strL _ _ _ _).nx; omega, q'⟩
    · exact .inr ⟨by show (nx : Int) ≤ (g.nx : Int); omega, by show (g.nx : Int) ≤ _; omega⟩
theorem seq_next (s : List Nat) (k : Nat) (hk : k ≤ s.length) : (seqP s k).2 < 0 ∨ ((k : Int) ≤ (seqP s k).2 ∧ (seqP s k).2 ≤ (s.length : Int)) := by
  have h := hdr_at hk (last := 48) rfl
  rw [seqP_eq]
  unfold seqA
  generalize hdrL 48 (s.drop k) k [] [] = g at *
  rcases h with h | ⟨h, h1, h2⟩ | ⟨h, h1, h2, _⟩
  · rw [if_pos h]; exact .inl (by show (-1 : Int) < 0; decide)
  · rw [if_neg (by omega), if_pos h]
    have := brkNx_lo (s.getD g.nx 0) g.nx
    exact .inr ⟨by show (k : Int) ≤ ((brkNx (s.getD g.nx 0) g.nx : Nat) : Int); omega, by show ((brkNx (s.getD g.nx 0) g.nx : Nat) : Int) ≤ _; omega⟩
  · rw [if_neg (by omega), if_neg (by omega)]
    split
    · exact .inr ⟨by show (k : Int) ≤ (g.nx : Int); omega, by show (g.nx : Int) ≤ _; omega⟩
    · split
      · rcases str_next ((begunP (g.B.getD (g.B.length - 1) 0) : Int) == 6) s.length (s.drop g.nx) g.nx [] (by simp; omega) with q | ⟨q, q'⟩
        · exact .inl q
        · exact .inr ⟨by show (k : Int) ≤ (strL _ _ _ _).nx; omega, q'⟩
      · rcases seqB_next s (begunP (g.B.getD (g.B.length - 1) 0)) g.C g.nx h2 with q | ⟨q, q'⟩
        · exact .inl q
        · exact .inr ⟨by omega, q'⟩
def oneT (c : Nat) : List Tok := if 32 ≤ c then [prtT c] else if c ≠ 24 then [ctlT c] else []
/-- The reference's Split, from a place on. -/
def splW (s : List Nat) (i : Nat) : List Tok × Bool :=
  if h : i < s.length then
    if s[i] = 27 then
      if hn : (seqP s (i + 1)).2 < 0 then ((seqP s (i + 1)).1, true)
      else ((seqP s (i + 1)).1 ++ (splW s (seqP s (i + 1)).2.toNat).1, (splW s (seqP s (i + 1)).2.toNat).2)
    else (oneT s[i] ++ (splW s (i + 1)).1, (splW s (i + 1)).2)
  else ([], false)
termination_by s.length - i
decreasing_by
  all_goals (have := seq_next s (i + 1) (by omega); omega)
theorem brkC_len (c : Nat) (C : List Nat) : (brkC c C).length ≤ C.length + 1 := by unfold brkC; split <;> simp
theorem strT_len (t : Tok) (g : Bool) (r : St) (C : List Nat) : (strT t g r C).length ≤ C.length + 1 := by
  unfold strT
  split
  · rw [List.length_append, List.length_map]
    split <;> simp
  · split
    · rw [List.length_map]; exact brkC_len _ _
    · simp
theorem seq_len (s : List Nat) (k : Nat) (hk : k ≤ s.length) : (seqP s k).1.length ≤ 2 * s.length + 2 := by
  have hC := (hdrF 48 s k hk).C
  have hx := hdr_at hk (last := 48) rfl
  rw [seqP_eq]
  unfold seqA
  generalize hdrL 48 (s.drop k) k [] [] = h at *
  have b1 := brkC_len (s.getD h.nx 0) h.C
  split
  · simp; omega
  · split
    · show (List.map _ _).length ≤ _
      rw [List.length_map]
      omega
    · split
      · rw [List.length_append, List.length_map]
        split <;> simp <;> omega
      · split
        · have := strT_len ⟨(begunP (h.B.getD (h.B.length - 1) 0) : Int), 0, 0, [], ⟨#[]⟩, []⟩ true (strL ((begunP (h.B.getD (h.B.length - 1) 0) : Int) == 6) (s.drop h.nx) h.nx []) h.C
          dsimp only at this ⊢
          omega
        · have hnx : h.nx ≤ s.length := by omega
          have hG := (hdrF 64 s h.nx hnx).C
          unfold seqB
          generalize hdrL 64 (s.drop h.nx) h.nx [] [] = g at *
          dsimp only
          have b2 := brkC_len (s.getD g.nx 0) (h.C ++ g.C)
          rw [List.length_append] at b2
          split
          · simp; omega
          · split
            · show (List.map _ _).length ≤ _
              rw [List.length_map]
              omega
            · split
              · have := strT_len (parsP (begunP (h.B.getD (h.B.length - 1) 0) : Int) g.B).1 (parsP (begunP (h.B.getD (h.B.length - 1) 0) : Int) g.B).2 (strL ((begunP (h.B.getD (h.B.length - 1) 0) : Int) == 6) (s.drop g.nx) g.nx []) (h.C ++ g.C)
                rw [List.length_append] at this
                dsimp only at this ⊢
                omega
              · dsimp only
                rw [List.length_append, List.length_map, List.length_append]
                split <;> simp <;> omega
theorem plainL_lt (ns : List Nat) (h : ∀ x ∈ ns, x < 256) : ∀ x ∈ plainL ns, x < 256 := fun x hx => by
  unfold plainL at hx
  obtain ⟨c, hc, hx⟩ := List.mem_flatMap.1 hx
  have := h c hc
  unfold plainC at hx
  split at hx
  · simp at hx
  · split at hx
    · simp at hx; omega
    · simp at hx; omega
theorem OTk.keepT {w w' : World} {base b n sz : Nat} {v u : Value} {t : Tok} {T : TypeId} {xs : List Value} (h : OTk w base v t) (ho : w.ownsRow b T sz u n xs) (h1 : 3 ≠ T) (h2 : 5 ≠ T) (hg : w.grownBy w' u.ownBlock) : OTk w' base v t := by
  obtain ⟨A, c, B, d, e, g1, g2⟩ := h
  exact ⟨A, c, B, d, e, World.ownsRow.kept g1 hg (own_apart g1 ho h1), World.ownsRow.kept g2 hg (own_apart g2 ho h2)⟩
theorem OTl.keepT {w w' : World} {base b n sz : Nat} {u : Value} {T : TypeId} {ys : List Value} (ho : w.ownsRow b T sz u n ys) (h1 : 3 ≠ T) (h2 : 5 ≠ T) (hg : w.grownBy w' u.ownBlock) : ∀ {xs : List (Array Value)} {ts : List Tok}, OTl w base xs ts → OTl w' base xs ts
  | [], [], _ => trivial
  | _ :: _, _ :: _, h => ⟨h.1.keepT ho h1 h2 hg, OTl.keepT ho h1 h2 hg h.2⟩

end Go.Proofs.YtfnamfkjbkhgeaaGreatDoor

namespace Go.Proofs.YtfnamfkjbkhgeaaGreatDoor

open Go Go.RowKit
set_option maxRecDepth 100000

theorem splW_esc {s : List Nat} {i : Nat} (h : i < s.length) (h27 : s[i] = 27) : splW s i = if (seqP s (i + 1)).2 < 0 then ((seqP s (i + 1)).1, true) else ((seqP s (i + 1)).1 ++ (splW s (seqP s (i + 1)).2.toNat).1, (splW s (seqP s (i + 1)).2.toNat).2) := by
  rw [splW, dif_pos h, if_pos h27]
  split <;> rfl
theorem splW_one {s : List Nat} {i : Nat} (h : i < s.length) (h27 : s[i] ≠ 27) : splW s i = (oneT s[i] ++ (splW s (i + 1)).1, (splW s (i + 1)).2) := by
  rw [splW, dif_pos h, if_neg h27]
theorem splW_end {s : List Nat} {i : Nat} (h : ¬ i < s.length) : splW s i = ([], false) := by rw [splW, dif_neg h]
theorem pt2 {W : World} {b : Nat} {T : TypeId} {x y : Value} (h : Blk W b T #[x, y]) : W.cell? ⟨b, 0, none⟩ = some x ∧ W.cell? ⟨b, 1, none⟩ = some y := ⟨h.cell 0, h.cell 1⟩
def onX (k : Int) (c : Nat) : Array Value := #[.int .i64 k, .int .u8 (c : Int), .int .u8 0, .slice none 0 0, .string ⟨#[]⟩, .slice none 0 0]
theorem onX_one (k : Int) (c : Nat) : ∀ u ∈ ([.int .i64 k, .int .u8 (c : Int), .int .u8 0, .slice none 0 0, .string ⟨#[]⟩, .slice none 0 0] : List Value), u.oneCell' = true := by simp [Value.oneCell']


end Go.Proofs.YtfnamfkjbkhgeaaGreatDoor

namespace Go.Proofs.YtfnamfkjbkhgeaaGreatDoor

open Go Go.RowKit
set_option maxRecDepth 100000

def em (t : Tok) : List Tok := if t.kd = 0 then [] else [t]
/-- A parser over a plain stream. -/
def runQ : Ps → List Nat → Ps × List Tok
  | s, [] => (s, [])
  | s, c :: l => ((runQ (takeP s c).1 l).1, em (takeP s c).2 ++ (runQ (takeP s c).1 l).2)
theorem run_cons (s : Ps) (c : Nat) (l : List Nat) : runQ s (c :: l) = ((runQ (takeP s c).1 l).1, em (takeP s c).2 ++ (runQ (takeP s c).1 l).2) := rfl
theorem run_app (l m : List Nat) : ∀ s, runQ s (l ++ m) = ((runQ (runQ s l).1 m).1, (runQ s l).2 ++ (runQ (runQ s l).1 m).2) := by
  induction l with
  | nil => intro s; simp [runQ]
  | cons c l ih => intro s; rw [List.cons_append, run_cons, ih, run_cons]; simp
theorem run_at (s : Ps) (l : List Nat) (k : Nat) (h : k < l.length) : runQ s (l.drop k) = ((runQ (takeP s l[k]).1 (l.drop (k + 1))).1, em (takeP s l[k]).2 ++ (runQ (takeP s l[k]).1 (l.drop (k + 1))).2) := by
  rw [List.drop_eq_getElem_cons h, run_cons]
theorem em0 : em tok0 = [] := rfl
theorem em_ctl (c : Nat) : em (ctlT c) = [ctlT c] := rfl
theorem take_mid {s : Ps} (hp : s.pl ≠ 0 ∧ s.pl ≠ 6 ∧ s.pl ≠ 7) {c : Nat} (hc : ¬ (c = 24 ∨ c = 26)) : takeP s c = takeWithinP s c := by
  unfold takeP takeP0 takePl
  rw [if_neg (fun h => hp.2.2 h.1), if_neg hc, if_neg hp.1, if_neg hp.2.1]
/-- No token ends with an escape. -/
theorem esc_none (s : Ps) : (takeP s 27).2 = tok0 ∨ s.pl = 6 ∧ (takeP s 27).2 = tok0 := by
  left
  unfold takeP
  split
  · rfl
  · show (takePl s 27).2 = tok0
    unfold takePl
    split
    · rfl
    · split <;> rfl
theorem feedB_run (s : Ps) (c : Nat) : feedB s c = runQ s (plainC c) := by
  have one : ∀ (s : Ps) (c : Nat), ¬ (c = 0 ∨ c = 127) → feedC s c = runQ s [c] := fun s c h => by
    unfold feedC
    rw [if_neg h, run_cons]
    show _ = ((takeP s c).1, em (takeP s c).2 ++ [])
    rw [List.append_nil]
    rfl
  unfold feedB hiP plainC
  by_cases h : 128 ≤ c ∧ c ≤ 159
  · have h0 : em (takeP s 27).2 = [] := by rcases esc_none s with e | ⟨_, e⟩ <;> rw [e] <;> rfl
    have e : runQ s [27, c - 64] = runQ (takeP s 27).1 [c - 64] := by rw [run_cons, h0]; rfl
    rw [if_pos h, if_neg (by omega), if_pos (by omega), e]
    exact one _ _ (by omega)
  · rw [if_neg h]
    by_cases h0 : c = 0 ∨ c = 127
    · rw [if_pos h0]
      unfold feedC
      rw [if_pos h0]
      rfl
    · rw [if_neg h0, if_neg (by omega)]
      exact one s c h0
theorem feedL_run (l : List Nat) : ∀ s, feedL s l = runQ s (plainL l) := by
  induction l with
  | nil => intro s; rfl
  | cons c l ih =>
    intro s
    have h1 : feedL s (c :: l) = ((feedL (feedB s c).1 l).1, (feedB s c).2 ++ (feedL (feedB s c).1 l).2) := by
      have := feedL_fold l (feedB s c).1 (feedB s c).2
      unfold feedL at this ⊢
      rw [List.foldl_cons]
      simpa using this
    rw [h1, ih, feedB_run]
    show _ = runQ s (plainC c ++ plainL l)
    rw [run_app]
theorem plain_bv (l : List Nat) (h : ∀ x ∈ l, x < 256) : ∀ x ∈ plainL l, bv x := fun x hx => by
  unfold plainL at hx
  obtain ⟨c, hc, hx⟩ := List.mem_flatMap.1 hx
  have := h c hc
  unfold plainC at hx
  unfold bv
  split at hx
  · simp at hx
  · split at hx
    · simp at hx; omega
    · simp at hx; omega
/-! Headers. -/
def foldS (s : Ps) (B : List Nat) : Ps := B.foldl (fun s d => (stepP s d).1) s
theorem foldS_snoc (s : Ps) (B : List Nat) (d : Nat) : foldS s (B ++ [d]) = (stepP (foldS s B) d).1 := by simp [foldS]
def inB (last : Nat) (B : List Nat) : Prop := ∀ x ∈ B, 32 ≤ x ∧ x < last
theorem inB_snoc {last : Nat} {B : List Nat} (h : inB last B) {d : Nat} (hd : 32 ≤ d ∧ d < last) : inB last (B ++ [d]) := fun x hx => by
  rcases List.mem_append.1 hx with h1 | h1
  · exact h x h1
  · obtain rfl : x = d := by simpa using h1
    exact hd
/-- What a state that goes through a header must be. -/
structure Thru (last : Nat) (s : Ps) : Prop where
  pl : ∀ B, inB last B → (foldS s B).pl ≠ 0 ∧ (foldS s B).pl ≠ 6 ∧ (foldS s B).pl ≠ 7
  tk : ∀ B, inB last B → ∀ d, 32 ≤ d → d < last → (stepP (foldS s B) d).2 = tok0
structure HdrRun (s : List Nat) (st : Ps) (last k : Nat) (C B : List Nat) (h : Hd) (C' : List Nat) : Prop where
  c : h.C = C ++ C'
  zero : h.en = 0 → inB last h.B ∧ runQ (foldS st B) (s.drop k) = (foldS st h.B, C'.map ctlT)
  two : h.en = 2 → inB last h.B ∧ (∃ hx : h.nx < s.length, brkB s[h.nx] = true) ∧ runQ (foldS st B) (s.drop k) = ((runQ (foldS st h.B) (s.drop h.nx)).1, C'.map ctlT ++ (runQ (foldS st h.B) (s.drop h.nx)).2)
  one : h.en = 1 → ∃ B' d, h.B = B' ++ [d] ∧ inB last B' ∧ last ≤ d ∧ 32 ≤ d ∧ d < 127 ∧ runQ (foldS st B) (s.drop k) = ((runQ (stepP (foldS st B') d).1 (s.drop h.nx)).1, C'.map ctlT ++ (em (stepP (foldS st B') d).2 ++ (runQ (stepP (foldS st B') d).1 (s.drop h.nx)).2))
theorem hdr_run (s : List Nat) (hs : ∀ x ∈ s, bv x) (st : Ps) (last : Nat) (hT : Thru last st) : ∀ (n k : Nat) (C B : List Nat), s.length - k = n → k ≤ s.length → inB last B → ∃ C', HdrRun s st last k C B (hdrL last (s.drop k) k C B) C' := by
  intro n
  induction n with
  | zero =>
    intro k C B hn hk hB
    obtain rfl : k = s.length := by omega
    refine ⟨[], ?_⟩
    rw [List.drop_length]
    show HdrRun s st last s.length C B ⟨C, B, 0, 0⟩ []
    exact ⟨(List.append_nil _).symm, fun _ => ⟨hB, by rw [List.drop_length]; rfl⟩, fun h => absurd (show (0 : Nat) = 2 from h) (by decide), fun h => absurd (show (0 : Nat) = 1 from h) (by decide)⟩
  | succ n ih =>
    intro k C B hn hk hB
    have hlt : k < s.length := by omega
    have hb := hs s[k] (List.getElem_mem hlt)
    have hp := hT.pl B hB
    rw [hdrL_cons last s k hlt C B]
    by_cases h1 : brkB s[k] = true
    · rw [if_pos h1]
      exact ⟨[], (List.append_nil _).symm, fun h => by simp at h, fun _ => ⟨hB, ⟨hlt, h1⟩, rfl⟩, fun h => by simp at h⟩
    have h24 : ¬ (s[k] = 24 ∨ s[k] = 26) := fun h => h1 (by unfold brkB; rcases h with h | h <;> rw [h] <;> rfl)
    have h27 : s[k] ≠ 27 := fun h => h1 (by unfold brkB; rw [h]; rfl)
    have hstep := run_at (foldS st B) s k hlt
    rw [take_mid hp h24] at hstep
    unfold takeWithinP at hstep
    rw [if_neg h27] at hstep
    rw [if_neg h1]
    by_cases h2 : s[k] < 32
    · rw [if_pos h2]
      rw [if_pos h2] at hstep
      dsimp only at hstep
      obtain ⟨C', q⟩ := ih (k + 1) (C ++ [s[k]]) B (by omega) hlt hB
      refine ⟨s[k] :: C', by rw [q.c]; simp, fun h => ?_, fun h => ?_, fun h => ?_⟩
      · refine ⟨(q.zero h).1, ?_⟩
        rw [hstep, (q.zero h).2]; rfl
      · refine ⟨(q.two h).1, (q.two h).2.1, ?_⟩
        rw [hstep, (q.two h).2.2]; rfl
      · obtain ⟨B', d, g1, g2, g3, g4, g5, g6⟩ := q.one h
        refine ⟨B', d, g1, g2, g3, g4, g5, ?_⟩
        rw [hstep, g6]; rfl
    rw [if_neg h2]
    rw [if_neg h2] at hstep
    by_cases h3 : s[k] % 128 = 127
    · have h255 : s[k] = 255 := by unfold bv at hb; omega
      rw [if_pos h3]
      rw [if_pos h255] at hstep
      dsimp only at hstep
      rw [em0, List.nil_append] at hstep
      obtain ⟨C', q⟩ := ih (k + 1) C B (by omega) hlt hB
      refine ⟨C', q.c, fun h => ?_, fun h => ?_, fun h => ?_⟩
      · refine ⟨(q.zero h).1, ?_⟩
        rw [hstep, (q.zero h).2]
      · refine ⟨(q.two h).1, (q.two h).2.1, ?_⟩
        rw [hstep, (q.two h).2.2]
      · obtain ⟨B', d, g1, g2, g3, g4, g5, g6⟩ := q.one h
        refine ⟨B', d, g1, g2, g3, g4, g5, ?_⟩
        rw [hstep, g6]
    have hd := mod_seven hb h2 (fun h => h3 (by rw [h]))
    rw [if_neg h3]
    rw [if_neg (fun h => h3 (by rw [h]))] at hstep
    generalize s[k] % 128 = d at *
    by_cases h4 : last ≤ d
    · rw [if_pos h4]
      refine ⟨[], (List.append_nil _).symm, fun h => by simp at h, fun h => by simp at h, fun _ => ⟨B, d, rfl, hB, h4, hd.1, by omega, ?_⟩⟩
      rw [hstep]; rfl
    · rw [if_neg h4]
      rw [hT.tk B hB d hd.1 (by omega), em0, List.nil_append, ← foldS_snoc] at hstep
      obtain ⟨C', q⟩ := ih (k + 1) C (B ++ [d]) (by omega) hlt (inB_snoc hB ⟨hd.1, by omega⟩)
      refine ⟨C', q.c, fun h => ?_, fun h => ?_, fun h => ?_⟩
      · refine ⟨(q.zero h).1, ?_⟩
        rw [hstep, (q.zero h).2]
      · refine ⟨(q.two h).1, (q.two h).2.1, ?_⟩
        rw [hstep, (q.two h).2.2]
      · obtain ⟨B', d', g1, g2, g3, g4, g5, g6⟩ := q.one h
        refine ⟨B', d', g1, g2, g3, g4, g5, ?_⟩
        rw [hstep, g6]
/-- A byte that breaks, in the midst of what isn't a string. -/
theorem brk_run (s : List Nat) (st : Ps) (hp : st.pl ≠ 0 ∧ st.pl ≠ 6 ∧ st.pl ≠ 7) (k : Nat) (hk : k < s.length) (hb : brkB s[k] = true) : runQ st (s.drop k) = ((runQ ps0 (s.drop (brkNx s[k] k))).1, (brkC s[k] []).map ctlT ++ (runQ ps0 (s.drop (brkNx s[k] k))).2) := by
  have h : s[k] = 24 ∨ s[k] = 26 ∨ s[k] = 27 := by
    unfold brkB at hb
    simp at hb
    omega
  rw [run_at st s k hk]
  rcases h with h | h | h
  · rw [h]
    have e : takeP st 24 = (ps0, tok0) := by unfold takeP; rw [if_neg (fun q => hp.2.2 q.1)]; rfl
    rw [e]; rfl
  · rw [h]
    have e : takeP st 26 = (ps0, ctlT 26) := by unfold takeP; rw [if_neg (fun q => hp.2.2 q.1)]; rfl
    rw [e]; rfl
  · have e : takeP st 27 = (begP, tok0) := by rw [take_mid hp (by decide)]; rfl
    have e2 : takeP ps0 27 = (begP, tok0) := rfl
    have hnx : brkNx s[k] k = k := by rw [h]; rfl
    have hc : brkC s[k] [] = [] := by rw [h]; rfl
    rw [hnx, hc, run_at ps0 s k hk, h, e, e2]
    rfl
end Go.Proofs.YtfnamfkjbkhgeaaGreatDoor

namespace Go.Proofs.YtfnamfkjbkhgeaaGreatDoor

open Go Go.RowKit
set_option maxRecDepth 100000

theorem bstr_nil0 : bstr [] = ⟨#[]⟩ := rfl
theorem bstr_snoc (l : List Nat) (c : Nat) : bstr (l ++ [c]) = bstr l ++ chB c := by
  apply ByteArray.ext
  apply Array.ext'
  rw [ByteArray.data_append, bstr_list, Array.toList_append, bstr_list]
  simp [chB]
/-! Behind an escape. -/
def stE (B : List Nat) : Ps := if B = [] then begP else {begP with pl := 2, it := bstr (B.take 3), vo := decide (3 < B.length)}
theorem stE_step (B : List Nat) (d : Nat) (hd : 32 ≤ d ∧ d ≤ 47) : stepP (stE B) d = (stE (B ++ [d]), tok0) := by
  have hI : pInter d = true := by simp [pInter, hd.1, hd.2]
  have hE : takeEscIntersP (stE B) d = (stE (B ++ [d]), tok0) := by
    unfold takeEscIntersP
    rw [if_pos hI]
    congr 1
    by_cases hB : B = []
    · subst hB
      rfl
    · have e1 : stE B = {begP with pl := 2, it := bstr (B.take 3), vo := decide (3 < B.length)} := if_neg hB
      have e2 : stE (B ++ [d]) = {begP with pl := 2, it := bstr ((B ++ [d]).take 3), vo := decide (3 < (B ++ [d]).length)} := if_neg (by simp)
      have hz : (bstr (B.take 3)).size = min 3 B.length := by rw [bstr_size, List.length_take]
      have hpos : 0 < B.length := List.length_pos_iff.2 hB
      rw [e1, e2]
      unfold takeInterP
      dsimp only
      rw [hz]
      by_cases h3 : 3 ≤ B.length
      · rw [if_pos (by omega), List.take_append_of_le_length h3, decide_eq_true (show 3 < (B ++ [d]).length by simp; omega)]
      · rw [if_neg (by omega), List.take_of_length_le (by omega), List.take_of_length_le (by simp; omega), bstr_snoc, decide_eq_false (show ¬ 3 < B.length by omega), decide_eq_false (show ¬ 3 < (B ++ [d]).length by simp; omega)]
  unfold stepP
  by_cases hB : B = []
  · subst hB
    have : (stE []).pl = 1 := rfl
    rw [if_pos this]
    unfold takeEscapedP
    rw [if_neg (by omega), if_neg (by omega), if_neg (by omega), if_neg (by omega), if_neg (by omega), if_neg (by omega), if_neg (by omega)]
    exact hE
  · have : (stE B).pl = 2 := by unfold stE; rw [if_neg hB]
    rw [if_neg (by rw [this]; decide), if_pos this]
    exact hE
theorem esc_fold (B : List Nat) (hB : inB 48 B) : foldS begP B = stE B := by
  have h : ∀ (l X : List Nat), inB 48 l → foldS (stE X) l = stE (X ++ l) := by
    intro l
    induction l with
    | nil => intro X _; rw [List.append_nil]; rfl
    | cons d l ih =>
      intro X hl
      have hd := hl d (by simp)
      show foldS (stepP (stE X) d).1 l = _
      rw [stE_step X d ⟨hd.1, by omega⟩]
      rw [ih (X ++ [d]) (fun x hx => hl x (by simp [hx]))]
      simp
  have := h B [] hB
  rw [List.nil_append] at this
  exact this
theorem stE_pl (B : List Nat) : (stE B).pl ≠ 0 ∧ (stE B).pl ≠ 6 ∧ (stE B).pl ≠ 7 := by
  unfold stE
  split
  · exact ⟨by decide, by decide, by decide⟩
  · exact ⟨by show (2 : Int) ≠ 0; decide, by show (2 : Int) ≠ 6; decide, by show (2 : Int) ≠ 7; decide⟩
theorem thru_esc : Thru 48 begP := ⟨fun B hB => by rw [esc_fold B hB]; exact stE_pl B, fun B hB d h1 h2 => by rw [esc_fold B hB, stE_step B d ⟨h1, by omega⟩]⟩
/-! A Csi's or a Dcs's header. -/
/-- Behind the first Inter. -/
structure F5 (st s : Ps) (R : List Nat) : Prop where
  pl : s.pl = 5
  kd : s.kd = st.kd
  cd : s.cd = st.cd
  ds : s.ds = st.ds
  mr : s.mr = st.mr
  fs : s.fs = st.fs
  vo : s.vo = (st.vo || !(low48 R && decide (st.it.size + R.length ≤ 3)))
  it : s.vo = false → s.it = st.it ++ bstr R
  sz : s.vo = false → s.it.size = st.it.size + R.length
theorem fold5 (st : Ps) (hp : st.pl = 5) (h3 : st.it.size ≤ 3) : ∀ (n : Nat) (R : List Nat), R.length = n → inB 64 R → F5 st (foldS st R) R := by
  intro n
  induction n with
  | zero =>
    intro R hn _
    obtain rfl : R = [] := List.eq_nil_of_length_eq_zero hn
    refine ⟨hp, rfl, rfl, rfl, rfl, rfl, ?_, fun _ => ?_, fun _ => rfl⟩
    · show st.vo = _
      simp [low48, h3]
    · show st.it = st.it ++ bstr []
      rw [bstr_nil0]
      exact (ByteArray.append_empty).symm
  | succ n ih =>
    intro R hn hR
    obtain ⟨X, d, rfl⟩ : ∃ X d, R = X ++ [d] := ⟨R.dropLast, R.getLast (by intro h; rw [h] at hn; simp at hn), (List.dropLast_concat_getLast _).symm⟩
    have hd := hR d (by simp)
    have q := ih X (by simpa using hn) (fun x hx => hR x (by simp [hx]))
    rw [foldS_snoc]
    generalize foldS st X = s at *
    have hs : stepP s d = takeIntersP s d := by
      unfold stepP
      rw [if_neg (by rw [q.pl]; decide), if_neg (by rw [q.pl]; decide), if_neg (by rw [q.pl]; decide), if_neg (by rw [q.pl]; decide)]
    rw [hs]
    unfold takeIntersP
    rw [if_neg (by simp [pCode]; omega)]
    have hlow : low48 (X ++ [d]) = (low48 X && decide (d < 48)) := low_snoc X d
    by_cases hI : d ≤ 47
    · rw [if_pos (by simp [pInter, hd.1, hI])]
      unfold takeInterP
      by_cases hz : s.it.size = 3
      · rw [if_pos hz]
        refine ⟨rfl, q.kd, q.cd, q.ds, q.mr, q.fs, ?_, fun h => by simp at h, fun h => by simp at h⟩
        show true = _
        rw [hlow]
        rcases hv : s.vo with _ | _
        · have := q.sz hv
          rw [decide_eq_false (show ¬ st.it.size + (X ++ [d]).length ≤ 3 by simp; omega)]
          simp
        · have := q.vo
          rw [hv] at this
          rcases hsv : st.vo with _ | _
          · rw [hsv] at this
            simp only [Bool.false_or] at this ⊢
            rcases hlx : low48 X with _ | _
            · simp
            · rw [hlx] at this
              simp at this
              rw [decide_eq_false (show ¬ st.it.size + (X ++ [d]).length ≤ 3 by simp; omega)]
              simp
          · simp
      · rw [if_neg hz]
        refine ⟨rfl, q.kd, q.cd, q.ds, q.mr, q.fs, ?_, fun h => ?_, fun h => ?_⟩
        · show s.vo = _
          rw [q.vo, hlow, decide_eq_true (show d < 48 by omega), Bool.and_true]
          rcases hv : s.vo with _ | _
          · have hsz := q.sz hv
            have := q.vo
            rw [hv] at this
            rcases hsv : st.vo with _ | _
            · rw [hsv] at this
              simp only [Bool.false_or] at this ⊢
              rcases hlx : low48 X with _ | _
              · rw [hlx] at this; simp at this
              · rw [hlx] at this
                simp at this
                rw [decide_eq_true (show st.it.size + X.length ≤ 3 by omega)]
                have hle : s.it.size ≤ 3 := by omega
                rw [decide_eq_true (show st.it.size + (X ++ [d]).length ≤ 3 by simp; omega)]
            · rw [hsv] at this; simp at this
          · have := q.vo
            rw [hv] at this
            rw [← this]
            rcases hsv : st.vo with _ | _
            · rw [hsv] at this
              simp only [Bool.false_or] at this ⊢
              rcases hlx : low48 X with _ | _
              · simp
              · rw [hlx] at this
                simp at this
                rw [decide_eq_false (show ¬ st.it.size + (X ++ [d]).length ≤ 3 by simp; omega)]
                simp
            · simp
        · show s.it ++ chB d = st.it ++ bstr (X ++ [d])
          rw [q.it h, bstr_snoc, ByteArray.append_assoc]
        · show (s.it ++ chB d).size = _
          rw [ByteArray.size_append, ch_size, q.sz h]
          simp
          omega
    · rw [if_neg (by simp [pInter]; omega)]
      refine ⟨q.pl, q.kd, q.cd, q.ds, q.mr, q.fs, ?_, fun h => by simp at h, fun h => by simp at h⟩
      show true = _
      rw [hlow, decide_eq_false (show ¬ d < 48 by omega)]
      simp
end Go.Proofs.YtfnamfkjbkhgeaaGreatDoor

namespace Go.Proofs.YtfnamfkjbkhgeaaGreatDoor

open Go Go.RowKit
set_option maxRecDepth 100000

def u8l (l : List Nat) : List UInt8 := l.map UInt8.ofNat
/-- Digits and what stands among them. -/
structure FN (st s : Ps) (N : List Nat) : Prop where
  pl : s.pl = 4
  kd : s.kd = st.kd
  cd : s.cd = st.cd
  ds : s.ds = st.ds
  mr : s.mr = st.mr
  it : s.it = st.it
  vo : s.vo = (st.vo || !((u8l N).all okb))
  fs : s.vo = false → s.fs = (u8l N).foldl stepF st.fs
theorem foldN (st : Ps) (hp : st.pl = 4) : ∀ (n : Nat) (N : List Nat), N.length = n → (∀ x ∈ N, 48 ≤ x ∧ x < 64) → FN st (foldS st N) N := by
  intro n
  induction n with
  | zero =>
    intro N hn _
    obtain rfl : N = [] := List.eq_nil_of_length_eq_zero hn
    exact ⟨hp, rfl, rfl, rfl, rfl, rfl, by show st.vo = _; simp [u8l], fun _ => rfl⟩
  | succ n ih =>
    intro N hn hN
    obtain ⟨X, d, rfl⟩ : ∃ X d, N = X ++ [d] := ⟨N.dropLast, N.getLast (by intro h; rw [h] at hn; simp at hn), (List.dropLast_concat_getLast _).symm⟩
    have hd := hN d (by simp)
    have q := ih X (by simpa using hn) (fun x hx => hN x (by simp [hx]))
    rw [foldS_snoc]
    generalize foldS st X = s at *
    have hu : u8l (X ++ [d]) = u8l X ++ [UInt8.ofNat d] := by simp [u8l]
    have hs : stepP s d = takeNumbersP s d := by
      unfold stepP
      rw [if_neg (by rw [q.pl]; decide), if_neg (by rw [q.pl]; decide), if_neg (by rw [q.pl]; decide), if_pos q.pl]
    rw [hs]
    unfold takeNumbersP
    by_cases ho : okb (UInt8.ofNat d) = true
    · rw [if_pos ho]
      refine ⟨q.pl, q.kd, q.cd, q.ds, q.mr, q.it, ?_, fun h => ?_⟩
      · rw [hu]
        show s.vo = _
        rw [q.vo, List.all_append]
        simp [ho]
      · rw [hu]
        show stepF s.fs (UInt8.ofNat d) = _
        rw [q.fs h, List.foldl_append]
        rfl
    · rw [if_neg ho]
      unfold takeIntersP
      rw [if_neg (by simp [pCode]; omega), if_neg (by simp [pInter]; omega)]
      refine ⟨q.pl, q.kd, q.cd, q.ds, q.mr, q.it, ?_, fun h => by simp at h⟩
      rw [hu]
      show true = _
      rw [List.all_append]
      simp [ho]
/-- From the numbers on. -/
structure F4 (st s : Ps) (R : List Nat) : Prop where
  pl : s.pl = 4 ∨ s.pl = 5
  kd : s.kd = st.kd
  cd : s.cd = st.cd
  ds : s.ds = st.ds
  mr : s.mr = st.mr
  vo : s.vo = (st.vo || !((u8l (R.take (cntP R))).all okb && (decide ((R.drop (cntP R)).length ≤ 3) && low48 (R.drop (cntP R)))))
  fs : s.vo = false → s.fs = (u8l (R.take (cntP R))).foldl stepF st.fs
  it : s.vo = false → s.it = bstr (R.drop (cntP R))
theorem foldS_app (s : Ps) (A B : List Nat) : foldS s (A ++ B) = foldS (foldS s A) B := by simp [foldS]
theorem fold4 (st : Ps) (hp : st.pl = 4) (hi : st.it = ⟨#[]⟩) (R : List Nat) (hR : inB 64 R) : F4 st (foldS st R) R := by
  have q := foldN st hp _ (R.take (cntP R)) rfl (fun x hx => by
    obtain ⟨j, hj, rfl⟩ := List.mem_iff_getElem.1 hx
    rw [List.getElem_take]
    have hj' : j < cntP R := by simp at hj; omega
    have hjl : j < R.length := by simp at hj; omega
    exact ⟨cnt_lt R j hjl hj', (hR _ (List.getElem_mem hjl)).2⟩)
  have hfold : foldS st R = foldS (foldS st (R.take (cntP R))) (R.drop (cntP R)) := by
    rw [← foldS_app, List.take_append_drop]
  rw [hfold]
  obtain ⟨N, hN⟩ : ∃ N, R.take (cntP R) = N := ⟨_, rfl⟩
  obtain ⟨rest, hr⟩ : ∃ rest, R.drop (cntP R) = rest := ⟨_, rfl⟩
  rw [hN] at q ⊢
  rw [hr]
  clear hfold
  generalize foldS st N = s at *
  cases rest with
  | nil =>
    refine ⟨.inl q.pl, q.kd, q.cd, q.ds, q.mr, ?_, fun h => by rw [hN]; exact q.fs h, fun _ => ?_⟩
    · rw [hN, hr]
      show s.vo = _
      rw [q.vo]
      simp [low48]
    · rw [hr]
      show s.it = bstr []
      rw [q.it, hi]; rfl
  | cons c rest =>
    have hlt : cntP R < R.length := by
      have h1 : (R.drop (cntP R)).length = rest.length + 1 := by rw [hr]; rfl
      rw [List.length_drop] at h1
      omega
    have hc : R[cntP R] = c := by
      have h1 := List.drop_eq_getElem_cons hlt
      rw [hr] at h1
      injection h1 with h1 _
      exact h1.symm
    have hc48 := cnt_at R hlt
    rw [hc] at hc48
    have hcR : 32 ≤ c := by rw [← hc]; exact (hR _ (List.getElem_mem hlt)).1
    have hno : okb (UInt8.ofNat c) = false := by
      have : ∀ k : Fin 48, 32 ≤ k.val → okb (UInt8.ofNat k.val) = false := by decide +kernel
      exact this ⟨c, hc48⟩ hcR
    have h1 : stepP s c = takeIntersP s c := by
      unfold stepP
      rw [if_neg (by rw [q.pl]; decide), if_neg (by rw [q.pl]; decide), if_neg (by rw [q.pl]; decide), if_pos q.pl]
      unfold takeNumbersP
      rw [if_neg (by rw [hno]; decide)]
    have h2 : stepP {s with pl := 5} c = takeIntersP {s with pl := 5} c := rfl
    have h3 : takeIntersP s c = takeIntersP {s with pl := 5} c := by
      have hC : pCode c = false := by simp [pCode]; omega
      have hI : pInter c = true := by simp [pInter]; omega
      simp only [takeIntersP, hC, hI, Bool.false_eq_true, if_false, if_true]
    have hf : foldS s (c :: rest) = foldS {s with pl := 5} (c :: rest) := by
      show foldS (stepP s c).1 rest = foldS (stepP {s with pl := 5} c).1 rest
      rw [h1, h2, h3]
    rw [hf]
    have hin : inB 64 (c :: rest) := fun x hx => hR x (List.mem_of_mem_drop (by rw [hr]; exact hx))
    have hz : s.it.size = 0 := by rw [q.it, hi]; rfl
    have g := fold5 {s with pl := 5} rfl (by show s.it.size ≤ 3; omega) _ (c :: rest) rfl hin
    have gv := g.vo
    change _ = (s.vo || !(low48 (c :: rest) && decide (s.it.size + (c :: rest).length ≤ 3))) at gv
    rw [hz, Nat.zero_add] at gv
    refine ⟨.inr g.pl, g.kd.trans q.kd, g.cd.trans q.cd, g.ds.trans q.ds, g.mr.trans q.mr, ?_, fun h => ?_, fun h => ?_⟩
    · rw [gv, q.vo, hN, hr]
      rcases st.vo <;> rcases (u8l N).all okb <;> rcases low48 (c :: rest) <;> rcases decide ((c :: rest).length ≤ 3) <;> rfl
    · rw [g.fs, hN]
      refine q.fs ?_
      rw [h] at gv
      rcases hv : s.vo with _ | _
      · rfl
      · rw [hv] at gv
        simp at gv
    · rw [g.it h, hr]
      show s.it ++ _ = _
      rw [q.it, hi]
      exact ByteArray.empty_append
def S2 (kd : Int) : Ps := {begP with kd := kd, pl := 3}
def goodP (B : List Nat) : Bool := (u8l ((markP B).2.take (cntP (markP B).2))).all okb && (decide (((markP B).2.drop (cntP (markP B).2)).length ≤ 3) && low48 ((markP B).2.drop (cntP (markP B).2)))
/-- A whole header. -/
structure F3 (kd : Int) (s : Ps) (B : List Nat) : Prop where
  pl : s.pl = 3 ∨ s.pl = 4 ∨ s.pl = 5
  kd : s.kd = kd
  cd : s.cd = 0
  ds : s.ds = []
  vo : s.vo = !goodP B
  mr : s.vo = false → s.mr = (markP B).1
  fs : s.vo = false → s.fs = fieldsOf (u8l ((markP B).2.take (cntP (markP B).2)))
  it : s.vo = false → s.it = bstr ((markP B).2.drop (cntP (markP B).2))
theorem fold3 (kd : Int) (B : List Nat) (hB : inB 64 B) : F3 kd (foldS (S2 kd) B) B := by
  cases B with
  | nil => exact ⟨.inl rfl, rfl, rfl, rfl, rfl, fun _ => rfl, fun _ => rfl, fun _ => rfl⟩
  | cons c R =>
    have hc := hB c (by simp)
    have h1 : stepP (S2 kd) c = takeFirstP (S2 kd) c := rfl
    by_cases hm : 60 ≤ c ∧ c ≤ 63
    · have hmk : markP (c :: R) = (c, R) := by rw [mark_cons, if_pos hm]
      have h2 : foldS (S2 kd) (c :: R) = foldS {S2 kd with pl := 4, mr := c} R := by
        show foldS (stepP (S2 kd) c).1 R = _
        rw [h1]
        unfold takeFirstP
        rw [if_pos (by simp [pMark, hm.1, hm.2])]
      rw [h2]
      have q := fold4 {S2 kd with pl := 4, mr := c} rfl rfl R (fun x hx => hB x (by simp [hx]))
      have hv := q.vo
      refine ⟨.inr q.pl, q.kd, q.cd, q.ds, ?_, fun _ => ?_, fun h => ?_, fun h => ?_⟩
      · rw [hv]; unfold goodP; rw [hmk]; rfl
      · rw [q.mr, hmk]
      · rw [q.fs h, hmk]; rfl
      · rw [q.it h, hmk]
    · have hmk : markP (c :: R) = (0, c :: R) := by rw [mark_cons, if_neg hm]
      have h2 : foldS (S2 kd) (c :: R) = foldS {S2 kd with pl := 4} (c :: R) := by
        show foldS (stepP (S2 kd) c).1 R = foldS (stepP {S2 kd with pl := 4} c).1 R
        rw [h1]
        unfold takeFirstP
        rw [if_neg (by simp [pMark]; omega)]
        rfl
      rw [h2]
      have q := fold4 {S2 kd with pl := 4} rfl rfl (c :: R) hB
      have hv := q.vo
      refine ⟨.inr q.pl, q.kd, q.cd, q.ds, ?_, fun _ => ?_, fun h => ?_, fun h => ?_⟩
      · rw [hv]; unfold goodP; rw [hmk]; rfl
      · rw [q.mr, hmk]; rfl
      · rw [q.fs h, hmk]; rfl
      · rw [q.it h, hmk]
theorem step_low (s : Ps) (hp : s.pl = 3 ∨ s.pl = 4 ∨ s.pl = 5) (d : Nat) (hd : d < 64) : (stepP s d).2 = tok0 := by
  have hI : ∀ t : Ps, (takeIntersP t d).2 = tok0 := fun t => by
    unfold takeIntersP
    rw [if_neg (by simp [pCode]; omega)]
    split <;> rfl
  have hN : ∀ t : Ps, (takeNumbersP t d).2 = tok0 := fun t => by
    unfold takeNumbersP
    split
    · rfl
    · exact hI t
  unfold stepP
  rcases hp with h | h | h
  · rw [if_neg (by omega), if_neg (by omega), if_pos h]
    unfold takeFirstP
    split
    · rfl
    · exact hN _
  · rw [if_neg (by omega), if_neg (by omega), if_neg (by omega), if_pos h]; exact hN _
  · rw [if_neg (by omega), if_neg (by omega), if_neg (by omega), if_neg (by omega)]; exact hI _
theorem thru_two (kd : Int) : Thru 64 (S2 kd) := ⟨fun B hB => by have := (fold3 kd B hB).pl; omega, fun B hB d _ h2 => step_low _ (fold3 kd B hB).pl d h2⟩
theorem pars_eq (kd : Int) (B : List Nat) (d : Nat) : parsP kd (B ++ [d]) = (⟨kd, d, (markP B).1, (parseV (u8l ((markP B).2.take (cntP (markP B).2)))).1, bstr ((markP B).2.drop (cntP (markP B).2)), []⟩, goodP B) := by
  unfold parsP goodP
  dsimp only
  rw [List.dropLast_concat]
  have hl : (B ++ [d]).getLastD 0 = d := by simp
  rw [hl]
  have hb : ∀ l, (bstr l).data.toList = u8l l := fun l => bstr_list l
  rw [hb]
  generalize u8l ((markP B).2.take (cntP (markP B).2)) = l
  have hp : decide ((parseV l).2 = 0) = l.all okb := by
    unfold parseV
    rcases h : l.all okb with _ | _
    · simp
    · simp
  rw [hp]
end Go.Proofs.YtfnamfkjbkhgeaaGreatDoor

namespace Go.Proofs.YtfnamfkjbkhgeaaGreatDoor

open Go Go.RowKit
set_option maxRecDepth 100000

/-! Strings. -/
def txS (s0 : Ps) (D : List Nat) : Ps := {s0 with pl := 6, ds := D.take 4096, vo := s0.vo || decide (4096 < D.length)}
theorem data_eq {c : Nat} (h : bv c) : pData c = dataB c := by
  unfold bv at h
  unfold pData dataB amongB
  rw [Bool.eq_iff_iff]
  simp
  omega
theorem txS_hold (s0 : Ps) (D : List Nat) (c : Nat) : holdP (txS s0 D) c = txS s0 (D ++ [c]) := by
  unfold holdP txS
  by_cases h : 4096 ≤ D.length
  · have h1 : (D.take 4096).length = 4096 := by simp; omega
    dsimp only
    rw [if_pos h1, List.take_append_of_le_length h, decide_eq_true (show 4096 < (D ++ [c]).length by simp; omega), Bool.or_true]
  · have h1 : (D.take 4096).length ≠ 4096 := by simp; omega
    dsimp only
    rw [if_neg h1, List.take_of_length_le (by omega), List.take_of_length_le (by simp; omega), decide_eq_false (show ¬ 4096 < D.length by omega), decide_eq_false (show ¬ 4096 < (D ++ [c]).length by simp; omega)]
structure StrRun (s : List Nat) (s0 : Ps) (k : Nat) (D : List Nat) (r : St) : Prop where
  how : r.how = 0 ∨ r.how = 1 ∨ r.how = 2
  zero : r.how = 0 → r.nx = -1 ∧ ∃ st : Ps, st.pl ≠ 0 ∧ runQ (txS s0 D) (s.drop k) = (st, [])
  one : r.how = 1 → ∃ m : Nat, r.nx = (m : Int) ∧ runQ (txS s0 D) (s.drop k) = ((runQ ps0 (s.drop m)).1, em (endT (txS s0 r.D)) ++ (runQ ps0 (s.drop m)).2)
  two : r.how = 2 → ∃ m : Nat, r.nx = (m : Int) ∧ runQ (txS s0 D) (s.drop k) = ((runQ ps0 (s.drop m)).1, (brkC r.br []).map ctlT ++ (runQ ps0 (s.drop m)).2)
theorem take_six {s : Ps} (hp : s.pl = 6) {c : Nat} (hc : ¬ (c = 24 ∨ c = 26)) : takeP s c = takeTextP s c := by
  unfold takeP takeP0 takePl
  rw [if_neg (fun h => by have := h.1; omega), if_neg hc, if_neg (by omega), if_pos hp]
theorem str_run (s : List Nat) (hs : ∀ x ∈ s, bv x) (s0 : Ps) : ∀ (n k : Nat) (D : List Nat), s.length - k = n → k ≤ s.length → StrRun s s0 k D (strL (s0.kd == 6) (s.drop k) k D) := by
  intro n
  induction n with
  | zero =>
    intro k D hn hk
    obtain rfl : k = s.length := by omega
    rw [List.drop_length]
    show StrRun s s0 s.length D ⟨D, -1, 0, 0⟩
    exact ⟨.inl rfl, fun _ => ⟨rfl, txS s0 D, by show (6 : Int) ≠ 0; decide, by rw [List.drop_length]; rfl⟩, fun h => absurd (show (0 : Nat) = 1 from h) (by decide), fun h => absurd (show (0 : Nat) = 2 from h) (by decide)⟩
  | succ n ih =>
    intro k D hn hk
    have hlt : k < s.length := by omega
    have hb := hs s[k] (List.getElem_mem hlt)
    have hp : (txS s0 D).pl = 6 := rfl
    have hstep := run_at (txS s0 D) s k hlt
    by_cases h27 : s[k] = 27
    · have e27 : takeP (txS s0 D) 27 = ({txS s0 D with pl := 7}, tok0) := by rw [take_six hp (by decide)]; rfl
      rw [h27, e27] at hstep
      dsimp only at hstep
      rw [em0, List.nil_append] at hstep
      by_cases hend : k + 1 = s.length
      · rw [strL_end _ s k hend h27 D]
        refine ⟨.inl rfl, fun _ => ⟨rfl, {txS s0 D with pl := 7}, by show (7 : Int) ≠ 0; decide, ?_⟩, fun h => absurd (show (0 : Nat) = 1 from h) (by decide), fun h => absurd (show (0 : Nat) = 2 from h) (by decide)⟩
        rw [hstep, List.drop_of_length_le (by omega)]
        rfl
      · have hlt2 : k + 1 < s.length := by omega
        have hb2 := hs s[k + 1] (List.getElem_mem hlt2)
        rw [strL_esc _ s k hlt2 h27 D]
        have hstep2 := run_at ({txS s0 D with pl := 7}) s (k + 1) hlt2
        by_cases h92 : s[k + 1] % 128 = 92
        · rw [if_pos h92]
          have hx : s[k + 1] = 92 ∨ s[k + 1] = 220 := by unfold bv at hb2; omega
          have e : takeP {txS s0 D with pl := 7} s[k + 1] = (ps0, endT (txS s0 D)) := by
            unfold takeP takeTextEscapeP
            rw [if_pos ⟨rfl, by omega⟩, if_pos hx]
            rfl
          rw [e] at hstep2
          refine ⟨.inr (.inl rfl), fun h => absurd (show (1 : Nat) = 0 from h) (by decide), fun _ => ⟨k + 2, rfl, ?_⟩, fun h => absurd (show (1 : Nat) = 2 from h) (by decide)⟩
          rw [hstep, hstep2]
        · rw [if_neg h92]
          have hx : ¬ (s[k + 1] = 92 ∨ s[k + 1] = 220) := by omega
          have e : takeP {txS s0 D with pl := 7} s[k + 1] = takeP begP s[k + 1] := by
            unfold takeP
            rw [if_neg (show ¬ (begP.pl = 7 ∧ _) from fun h => by have h1 : (1 : Int) = 7 := h.1; omega)]
            by_cases hc : s[k + 1] = 24 ∨ s[k + 1] = 26
            · rw [if_neg (fun h => h.2 hc)]
              unfold takeP0
              rw [if_pos hc, if_pos hc]
            · rw [if_pos ⟨rfl, hc⟩]
              unfold takeTextEscapeP
              rw [if_neg hx]
          rw [e] at hstep2
          have h3 := run_at begP s (k + 1) hlt2
          have h4 := run_at ps0 s k hlt
          rw [h27, show takeP ps0 27 = (begP, tok0) from rfl] at h4
          dsimp only at h4
          rw [em0, List.nil_append] at h4
          refine ⟨.inr (.inr rfl), fun h => absurd (show (2 : Nat) = 0 from h) (by decide), fun h => absurd (show (2 : Nat) = 1 from h) (by decide), fun _ => ⟨k, rfl, ?_⟩⟩
          rw [hstep, hstep2, h4, h3]
          rfl
    · rw [strL_cons _ s k hlt h27 D]
      by_cases h7 : s[k] = 7 ∧ (s0.kd == 6) = true
      · rw [if_pos h7]
        have hk6 : (txS s0 D).kd = 6 := by show s0.kd = 6; simpa using h7.2
        have e : takeP (txS s0 D) s[k] = (ps0, endT (txS s0 D)) := by
          rw [take_six hp (by omega)]
          unfold takeTextP
          rw [if_neg h27, if_pos ⟨h7.1, hk6⟩]
        rw [e] at hstep
        exact ⟨.inr (.inl rfl), fun h => absurd (show (1 : Nat) = 0 from h) (by decide), fun _ => ⟨k + 1, rfl, hstep⟩, fun h => absurd (show (1 : Nat) = 2 from h) (by decide)⟩
      rw [if_neg h7]
      by_cases hbk : brkB s[k] = true
      · rw [if_pos hbk]
        have hc : s[k] = 24 ∨ s[k] = 26 := by
          unfold brkB at hbk
          simp at hbk
          omega
        refine ⟨.inr (.inr rfl), fun h => absurd (show (2 : Nat) = 0 from h) (by decide), fun h => absurd (show (2 : Nat) = 1 from h) (by decide), fun _ => ⟨brkNx s[k] k, rfl, ?_⟩⟩
        rw [hstep]
        rcases hc with h | h
        · rw [h]; rfl
        · rw [h]; rfl
      rw [if_neg hbk]
      have hc : ¬ (s[k] = 24 ∨ s[k] = 26) := fun h => hbk (by unfold brkB; rcases h with h | h <;> rw [h] <;> rfl)
      have h7' : ¬ (s[k] = 7 ∧ (txS s0 D).kd = 6) := fun h => h7 ⟨h.1, by have h2 : s0.kd = 6 := h.2; simpa using h2⟩
      have e : takeP (txS s0 D) s[k] = (txS s0 (if dataB s[k] = true then D ++ [s[k]] else D), tok0) := by
        rw [take_six hp hc]
        unfold takeTextP
        rw [if_neg h27, if_neg h7', data_eq hb]
        split
        · rw [txS_hold]
        · rfl
      rw [e] at hstep
      dsimp only at hstep
      rw [em0, List.nil_append] at hstep
      have q := ih (k + 1) (if dataB s[k] = true then D ++ [s[k]] else D) (by omega) hlt
      exact ⟨q.how, fun h => by rw [hstep]; exact q.zero h, fun h => by rw [hstep]; exact q.one h, fun h => by rw [hstep]; exact q.two h⟩
theorem end_tx (s0 : Ps) (hk : s0.kd ≠ 0) (D : List Nat) : em (endT (txS s0 D)) = if (!s0.vo && decide (D.length ≤ 4096)) = true then [⟨s0.kd, s0.cd, s0.mr, s0.fs.take 30, s0.it, D⟩] else [] := by
  unfold endT txS
  dsimp only
  rcases hv : s0.vo with _ | _
  · by_cases h : 4096 < D.length
    · rw [decide_eq_true h, decide_eq_false (by omega)]
      rfl
    · rw [decide_eq_false h, decide_eq_true (by omega), List.take_of_length_le (by omega)]
      exact if_neg hk
  · rfl
/-! Sequences. -/
/-- What was said, and where it goes on. -/
def Res (s : List Nat) (q : Ps × List Tok) (r : List Tok × Int) : Prop := (r.2 < 0 ∧ q.2 = r.1 ∧ q.1.pl ≠ 0) ∨ (∃ m : Nat, r.2 = (m : Int) ∧ q.1 = (runQ ps0 (s.drop m)).1 ∧ q.2 = r.1 ++ (runQ ps0 (s.drop m)).2)
theorem Res.pre {s : List Nat} {q : Ps × List Tok} {r : List Tok × Int} (h : Res s q r) (X : List Tok) : Res s (q.1, X ++ q.2) (X ++ r.1, r.2) := by
  rcases h with ⟨h1, h2, h3⟩ | ⟨m, h1, h2, h3⟩
  · exact .inl ⟨h1, by rw [h2], h3⟩
  · exact .inr ⟨m, h1, h2, by rw [h3, List.append_assoc]⟩
theorem brkC_app (c : Nat) (C : List Nat) : brkC c C = C ++ brkC c [] := by unfold brkC; split <;> simp
/-- A string's answer, of a parser that goes into it. -/
theorem str_res (s : List Nat) (hs : ∀ x ∈ s, bv x) (s0 : Ps) (hk : s0.kd ≠ 0) (hd : s0.ds = []) (hp : s0.pl = 6) (k : Nat) (hks : k ≤ s.length) (t : Tok) (good : Bool) (hg : good = !s0.vo) (ht : good = true → t = ⟨s0.kd, s0.cd, s0.mr, s0.fs.take 30, s0.it, []⟩) (C : List Nat) : Res s ((runQ s0 (s.drop k)).1, C.map ctlT ++ (runQ s0 (s.drop k)).2) (strT t good (strL (s0.kd == 6) (s.drop k) k []) C, (strL (s0.kd == 6) (s.drop k) k []).nx) := by
  have h0 : txS s0 [] = s0 := by
    unfold txS
    simp only [List.take_nil, List.length_nil, Nat.not_lt_zero, decide_false, Bool.or_false]
    rw [← hd, ← hp]
  have q := str_run s hs s0 _ k [] rfl hks
  generalize strL (s0.kd == 6) (s.drop k) k [] = r at *
  rcases q.how with h | h | h
  · obtain ⟨h1, st, h2, h3⟩ := (by have := q.zero h; rw [h0] at this; exact this : r.nx = -1 ∧ ∃ st : Ps, st.pl ≠ 0 ∧ runQ s0 (s.drop k) = (st, []))
    left
    rw [h3]
    refine ⟨by show r.nx < 0; omega, ?_, h2⟩
    show C.map ctlT ++ [] = strT t good r C
    unfold strT
    rw [if_neg (by omega), if_neg (by omega), List.append_nil]
  · obtain ⟨m, h1, h2⟩ := q.one h
    rw [h0] at h2
    right
    refine ⟨m, h1, by rw [h2], ?_⟩
    show _ = strT t good r C ++ _
    rw [h2]
    unfold strT
    rw [if_pos h, List.append_assoc, end_tx s0 hk]
    congr 1
    congr 1
    rw [← hg]
    rcases good with _ | _
    · rfl
    · rw [ht rfl]
  · obtain ⟨m, h1, h2⟩ := q.two h
    rw [h0] at h2
    right
    refine ⟨m, h1, by rw [h2], ?_⟩
    rw [h2]
    dsimp only
    unfold strT
    rw [if_neg (by omega), if_pos h, brkC_app _ C, List.map_append, List.append_assoc]
theorem inB_nil (last : Nat) : inB last [] := fun x hx => by simp at hx
theorem hdr_nlt {st : Ps} {last : Nat} (hT : Thru last st) {B : List Nat} (h : inB last B) : (foldS st B).pl ≠ 0 := (hT.pl B h).1
theorem seqB_res (s : List Nat) (hs : ∀ x ∈ s, bv x) (kd : Nat) (hkd : kd = 4 ∨ kd = 5) (C : List Nat) (nx : Nat) (hn : nx ≤ s.length) : Res s ((runQ (S2 kd) (s.drop nx)).1, C.map ctlT ++ (runQ (S2 kd) (s.drop nx)).2) (seqB s kd C nx) := by
  have hT := thru_two (kd : Int)
  obtain ⟨C', q⟩ := hdr_run s hs (S2 kd) 64 hT _ nx [] [] rfl hn (inB_nil _)
  have hx := hdr_at hn (last := 64) rfl
  unfold seqB
  generalize hdrL 64 (s.drop nx) nx [] [] = g at *
  obtain ⟨gC, gB, gx, ge⟩ := g
  have hgC : gC = C' := by have := q.c; simpa using this
  subst hgC
  dsimp only at hx ⊢
  have hf0 : foldS (S2 (kd : Int)) [] = S2 kd := rfl
  rcases hx with h | ⟨h, h1, h2⟩ | ⟨h, h1, h2, _⟩
  · obtain ⟨g1, g2⟩ := q.zero h
    rw [hf0] at g2
    rw [if_pos h, g2]
    exact .inl ⟨by show (-1 : Int) < 0; decide, by rw [List.map_append], hdr_nlt hT g1⟩
  · obtain ⟨g1, ⟨hxl, hbk⟩, g2⟩ := q.two h
    rw [hf0] at g2
    dsimp only at hxl hbk g2 g1
    rw [if_neg (by omega), if_pos h, g2, getD_at s gx hxl]
    have hb := brk_run s (foldS (S2 kd) gB) (hT.pl gB g1) gx hxl hbk
    right
    refine ⟨brkNx s[gx] gx, rfl, by rw [hb], ?_⟩
    rw [hb]
    dsimp only
    rw [brkC_app _ (C ++ gC), List.map_append, List.map_append, List.append_assoc, List.append_assoc]
  · obtain ⟨B', d, g1, g2, g3, g4, g5, g6⟩ := q.one h
    rw [hf0] at g6
    dsimp only at g1 g6
    rw [if_neg (by omega), if_neg (by omega), g6, g1, pars_eq]
    have f := fold3 (kd : Int) B' g2
    generalize foldS (S2 (kd : Int)) B' = st at *
    have hcode : stepP st d = takeCodeP st d := by
      have hC : pCode d = true := by simp [pCode]; omega
      have hM : pMark d = false := by simp [pMark]; omega
      have hO : okb (UInt8.ofNat d) = false := by
        have : ∀ j : Fin 127, 64 ≤ j.val → okb (UInt8.ofNat j.val) = false := by decide +kernel
        exact this ⟨d, g5⟩ g3
      unfold stepP
      rcases f.pl with h | h | h
      · rw [if_neg (by omega), if_neg (by omega), if_pos h]
        simp only [takeFirstP, takeNumbersP, takeIntersP, hC, hM, hO, Bool.false_eq_true, if_false, if_true]
        unfold takeCodeP
        rfl
      · rw [if_neg (by omega), if_neg (by omega), if_neg (by omega), if_pos h]
        simp only [takeNumbersP, takeIntersP, hC, hO, Bool.false_eq_true, if_false, if_true]
      · rw [if_neg (by omega), if_neg (by omega), if_neg (by omega), if_neg (by omega)]
        simp only [takeIntersP, hC, if_true]
    rw [hcode]
    dsimp only
    have hvo := f.vo
    rw [List.map_append]
    rcases hkd with rfl | rfl
    · rw [if_neg (by decide)]
      have e : takeCodeP st d = (ps0, endT {st with cd := d}) := by
        unfold takeCodeP
        rw [if_neg (by rw [f.kd]; decide)]
      rw [e]
      right
      refine ⟨gx, rfl, rfl, ?_⟩
      dsimp only
      rw [List.append_assoc, List.append_assoc]
      congr 1
      congr 1
      congr 1
      unfold endT
      dsimp only
      rw [hvo]
      rcases hg : goodP B' with _ | _
      · rfl
      · have hv : st.vo = false := by rw [hvo, hg]; rfl
        show em _ = _
        unfold em
        rw [if_neg (by show st.kd ≠ 0; rw [f.kd]; decide)]
        have hpv : (parseV (u8l ((markP B').2.take (cntP (markP B').2)))).1 = st.fs.take 30 := by
          rw [f.fs hv]
          unfold goodP at hg
          rw [Bool.and_eq_true] at hg
          unfold parseV
          rw [if_pos hg.1]
          rfl
        rw [hpv, ← f.mr hv, ← f.it hv, f.ds, f.kd]
        rfl
    · rw [if_pos rfl]
      have e : takeCodeP st d = ({st with cd := d, pl := 6}, tok0) := by
        unfold takeCodeP
        rw [if_pos (by rw [f.kd]; rfl)]
      rw [e]
      dsimp only
      rw [em0, List.nil_append]
      have hkd5 : (((5 : Nat) : Int) == 6) = (({st with cd := d, pl := 6} : Ps).kd == 6) := by show _ = (st.kd == 6); rw [f.kd]
      rw [hkd5]
      have := str_res s hs {st with cd := d, pl := 6} (by show st.kd ≠ 0; rw [f.kd]; decide) f.ds rfl gx h2 ⟨((5 : Nat) : Int), d, (markP B').1, (parseV (u8l ((markP B').2.take (cntP (markP B').2)))).1, bstr ((markP B').2.drop (cntP (markP B').2)), []⟩ (goodP B') (by show _ = !st.vo; rw [hvo]; simp) (fun hg => by
        have hv : st.vo = false := by rw [hvo, hg]; rfl
        have hpv : (parseV (u8l ((markP B').2.take (cntP (markP B').2)))).1 = st.fs.take 30 := by
          rw [f.fs hv]
          unfold goodP at hg
          rw [Bool.and_eq_true] at hg
          unfold parseV
          rw [if_pos hg.1]
          rfl
        rw [hpv, ← f.mr hv, ← f.it hv, ← f.kd]) (C ++ gC)
      rw [List.map_append, List.append_assoc] at this
      exact this
end Go.Proofs.YtfnamfkjbkhgeaaGreatDoor

namespace Go.Proofs.YtfnamfkjbkhgeaaGreatDoor

open Go Go.RowKit
set_option maxRecDepth 100000

theorem seq_res (s : List Nat) (hs : ∀ x ∈ s, bv x) (k : Nat) (hk : k ≤ s.length) : Res s (runQ begP (s.drop k)) (seqP s k) := by
  obtain ⟨C', q⟩ := hdr_run s hs begP 48 thru_esc _ k [] [] rfl hk (inB_nil _)
  have hx := hdr_at hk (last := 48) rfl
  rw [seqP_eq]
  unfold seqA
  generalize hdrL 48 (s.drop k) k [] [] = g at *
  obtain ⟨C, B, nx, en⟩ := g
  have hC : C = C' := by have := q.c; simpa using this
  subst hC
  dsimp only at hx ⊢
  have hf0 : foldS begP [] = begP := rfl
  rcases hx with h | ⟨h, h1, h2⟩ | ⟨h, h1, h2, _⟩
  · obtain ⟨g1, g2⟩ := q.zero h
    rw [hf0] at g2
    rw [if_pos h, g2]
    exact .inl ⟨by show (-1 : Int) < 0; decide, rfl, hdr_nlt thru_esc g1⟩
  · obtain ⟨g1, ⟨hxl, hbk⟩, g2⟩ := q.two h
    rw [hf0] at g2
    dsimp only at hxl hbk g2 g1
    rw [if_neg (by omega), if_pos h, g2, getD_at s nx hxl]
    have hb := brk_run s (foldS begP B) (thru_esc.pl B g1) nx hxl hbk
    right
    refine ⟨brkNx s[nx] nx, rfl, by rw [hb], ?_⟩
    rw [hb]
    dsimp only
    rw [brkC_app _ C, List.map_append, List.append_assoc]
  · obtain ⟨B', d, g1, g2, g3, g4, g5, g6⟩ := q.one h
    rw [hf0, esc_fold B' g2] at g6
    dsimp only at g1 g6
    have hn : B.length - 1 = B'.length := by rw [g1]; simp
    have hd : B.getD (B.length - 1) 0 = d := by rw [hn, g1]; simp [List.getD]
    have htk : B.take (B.length - 1) = B' := by rw [hn, g1]; simp
    rw [if_neg (by omega), if_neg (by omega), hd, htk, hn, g6]
    by_cases hB : B' = []
    · subst hB
      simp only [List.length_nil, Nat.lt_irrefl, false_or, Nat.zero_le, true_and]
      have hst : stepP (stE []) d = takeEscapedP begP d := rfl
      rw [hst]
      by_cases hk0 : begunP d = 0
      · rw [if_pos hk0]
        have hne : d ≠ 91 ∧ d ≠ 80 ∧ d ≠ 93 ∧ d ≠ 88 ∧ d ≠ 94 ∧ d ≠ 95 := by
          unfold begunP at hk0
          refine ⟨fun e => ?_, fun e => ?_, fun e => ?_, fun e => ?_, fun e => ?_, fun e => ?_⟩ <;> (subst e; revert hk0; decide)
        have e : takeEscapedP begP d = if d = 92 then (ps0, tok0) else takeEscIntersP begP d := by
          unfold takeEscapedP
          rw [if_neg hne.1, if_neg hne.2.1, if_neg hne.2.2.1, if_neg hne.2.2.2.1, if_neg hne.2.2.2.2.1, if_neg hne.2.2.2.2.2]
        rw [e]
        right
        refine ⟨nx, rfl, ?_, ?_⟩
        · by_cases h92 : d = 92
          · rw [if_pos h92]
          · rw [if_neg h92]
            have e2 : takeEscIntersP begP d = (ps0, endT {begP with cd := d}) := by
              unfold takeEscIntersP
              rw [if_neg (by simp [pInter]; omega)]
              rfl
            rw [e2]
        · by_cases h92 : d = 92
          · rw [if_pos h92, if_neg (by simpa using h92)]
            dsimp only
            rw [em0, List.append_nil]
            rfl
          · rw [if_neg h92, if_pos h92]
            have e2 : takeEscIntersP begP d = (ps0, endT {begP with cd := d}) := by
              unfold takeEscIntersP
              rw [if_neg (by simp [pInter]; omega)]
              rfl
            rw [e2]
            dsimp only
            rw [List.append_assoc]
            rfl
      · rw [if_neg hk0]
        have hd6 : d = 91 ∨ d = 80 ∨ d = 93 ∨ d = 88 ∨ d = 94 ∨ d = 95 := by
          unfold begunP at hk0
          by_cases q1 : d = 91; · exact .inl q1
          by_cases q2 : d = 80; · exact .inr (.inl q2)
          by_cases q3 : d = 93; · exact .inr (.inr (.inl q3))
          by_cases q4 : d = 88; · exact .inr (.inr (.inr (.inl q4)))
          by_cases q5 : d = 94; · exact .inr (.inr (.inr (.inr (.inl q5))))
          by_cases q6 : d = 95; · exact .inr (.inr (.inr (.inr (.inr q6))))
          rw [if_neg q1, if_neg q2, if_neg q3, if_neg q4, if_neg q5, if_neg q6] at hk0
          exact absurd rfl hk0
        have two : ∀ kd : Nat, (kd = 4 ∨ kd = 5) → begunP d = kd → takeEscapedP begP d = (S2 kd, tok0) → Res s ((runQ (takeEscapedP begP d).1 (s.drop nx)).1, C.map ctlT ++ (em (takeEscapedP begP d).2 ++ (runQ (takeEscapedP begP d).1 (s.drop nx)).2)) (if 5 < begunP d then (strT ⟨(begunP d : Int), 0, 0, [], ⟨#[]⟩, []⟩ true (strL ((begunP d : Int) == 6) (s.drop nx) nx []) C, (strL ((begunP d : Int) == 6) (s.drop nx) nx []).nx) else seqB s (begunP d) C nx) := fun kd hkd e1 e2 => by
          rw [e1, if_neg (by omega), e2]
          dsimp only
          rw [em0, List.nil_append]
          exact seqB_res s hs kd hkd C nx h2
        have six' : ∀ kd : Nat, (6 ≤ kd) → begunP d = kd → takeEscapedP begP d = ({begP with kd := kd, pl := 6}, tok0) → Res s ((runQ (takeEscapedP begP d).1 (s.drop nx)).1, C.map ctlT ++ (em (takeEscapedP begP d).2 ++ (runQ (takeEscapedP begP d).1 (s.drop nx)).2)) (if 5 < begunP d then (strT ⟨(begunP d : Int), 0, 0, [], ⟨#[]⟩, []⟩ true (strL ((begunP d : Int) == 6) (s.drop nx) nx []) C, (strL ((begunP d : Int) == 6) (s.drop nx) nx []).nx) else seqB s (begunP d) C nx) := fun kd hkd e1 e2 => by
          rw [e1, if_pos (by omega), e2]
          dsimp only
          rw [em0, List.nil_append]
          exact str_res s hs {begP with kd := kd, pl := 6} (by show (kd : Int) ≠ 0; omega) rfl rfl nx h2 ⟨(kd : Int), 0, 0, [], ⟨#[]⟩, []⟩ true rfl (fun _ => rfl) C
        rcases hd6 with e | e | e | e | e | e
        · subst e; exact two 4 (.inl rfl) rfl rfl
        · subst e; exact two 5 (.inr rfl) rfl rfl
        · subst e; exact six' 6 (by omega) rfl rfl
        · subst e; exact six' 7 (by omega) rfl rfl
        · subst e; exact six' 8 (by omega) rfl rfl
        · subst e; exact six' 9 (by omega) rfl rfl
    · have hpos : 0 < B'.length := List.length_pos_iff.2 hB
      rw [if_pos (.inl hpos)]
      have e : stepP (stE B') d = (ps0, endT {stE B' with cd := d}) := by
        have h2' : (stE B').pl = 2 := by unfold stE; rw [if_neg hB]
        have h3' : (stE B').kd = 3 := by unfold stE; rw [if_neg hB]; rfl
        unfold stepP
        rw [if_neg (by rw [h2']; decide), if_pos h2']
        unfold takeEscIntersP
        rw [if_neg (by simp [pInter]; omega)]
        unfold takeCodeP
        rw [if_neg (by rw [h3']; decide)]
      rw [e]
      right
      refine ⟨nx, rfl, rfl, ?_⟩
      dsimp only
      rw [List.append_assoc]
      congr 1
      congr 1
      have hE : stE B' = {begP with pl := 2, it := bstr (B'.take 3), vo := decide (3 < B'.length)} := if_neg hB
      rw [hE]
      unfold endT
      dsimp only
      by_cases h3 : 3 < B'.length
      · rw [decide_eq_true h3, if_pos rfl, if_neg (by omega)]
        rfl
      · rw [decide_eq_false h3, if_neg (by decide), if_pos ⟨by omega, .inl hpos⟩, show B'.take 3 = B' from List.take_of_length_le (by omega)]
        rfl
theorem spl_run (s : List Nat) (hs : ∀ x ∈ s, bv x) : ∀ (n i : Nat), s.length - i = n → i ≤ s.length → (runQ ps0 (s.drop i)).2 = (splW s i).1 ∧ ((runQ ps0 (s.drop i)).1.pl == 0) = !(splW s i).2 := by
  intro n
  induction n using Nat.strongRecOn with
  | _ n ih =>
    intro i hn hi
    by_cases hlt : i < s.length
    · have hb := hs s[i] (List.getElem_mem hlt)
      have hstep := run_at ps0 s i hlt
      by_cases h27 : s[i] = 27
      · rw [h27, show takeP ps0 27 = (begP, tok0) from rfl] at hstep
        dsimp only at hstep
        rw [em0, List.nil_append] at hstep
        have hr := seq_res s hs (i + 1) hlt
        have hnx := seq_next s (i + 1) hlt
        rw [splW_esc hlt h27, hstep]
        rcases hr with ⟨h1, h2, h3⟩ | ⟨m, h1, h2, h3⟩
        · rw [if_pos h1]
          exact ⟨h2, by simpa using h3⟩
        · rw [if_neg (by omega)]
          have hm : (seqP s (i + 1)).2.toNat = m := by omega
          have q := ih (s.length - m) (by omega) m rfl (by omega)
          rw [hm]
          exact ⟨by rw [show (runQ begP (s.drop (i + 1))).2 = _ from h3, q.1], by rw [show (runQ begP (s.drop (i + 1))).1 = _ from h2]; exact q.2⟩
      · have e : takeP ps0 s[i] = (ps0, if s[i] = 24 then tok0 else if s[i] < 32 then ctlT s[i] else prtT s[i]) := by
          have h0 : takeP ps0 s[i] = takeOutsideP ps0 s[i] := by
            unfold takeP takeP0
            rw [if_neg (fun h => by have h1 : (0 : Int) = 7 := h.1; omega)]
            split <;> rfl
          rw [h0]
          unfold takeOutsideP
          rw [if_neg h27]
          split
          · rfl
          · split <;> rfl
        rw [e] at hstep
        dsimp only at hstep
        have q := ih (s.length - (i + 1)) (by omega) (i + 1) rfl hlt
        rw [splW_one hlt h27, hstep]
        refine ⟨?_, q.2⟩
        dsimp only
        rw [q.1]
        congr 1
        unfold oneT
        by_cases h24 : s[i] = 24
        · rw [if_pos h24, if_neg (by omega), if_neg (by omega)]; rfl
        · rw [if_neg h24]
          by_cases h32 : s[i] < 32
          · rw [if_pos h32, if_neg (by omega), if_pos h24]; rfl
          · rw [if_neg h32, if_pos (by omega)]; rfl
    · obtain rfl : i = s.length := by omega
      rw [splW_end (Nat.lt_irrefl _), List.drop_length]
      exact ⟨rfl, rfl⟩
/-- What is fed says what the reference says, and something is begun where the reference says so. -/
theorem feed_split (ns : List Nat) (h : ∀ x ∈ ns, x < 256) : (feedL ps0 ns).2 = (splW (plainL ns) 0).1 ∧ ((feedL ps0 ns).1.pl == 0) = !(splW (plainL ns) 0).2 := by
  have := spl_run (plainL ns) (plain_bv ns h) _ 0 rfl (Nat.zero_le _)
  rw [List.drop_zero] at this
  rw [feedL_run]
  exact this
end Go.Proofs.YtfnamfkjbkhgeaaGreatDoor

namespace Go.Proofs.YtfnamfkjbkhgeaaGreatDoor

open Go Go.RowKit
set_option maxRecDepth 100000



theorem plainL_app (l m : List Nat) : plainL (l ++ m) = plainL l ++ plainL m := by simp [plainL]
/-- What means nothing may be left out. -/
theorem feed_plain {l m : List Nat} (h : plainL l = plainL m) : feedL ps0 l = feedL ps0 m := by rw [feedL_run, feedL_run, h]
end Go.Proofs.YtfnamfkjbkhgeaaGreatDoor

namespace Go.Proofs.YtfnamfkjbkhgeaaGreatDoor

open Go Go.RowKit
set_option maxRecDepth 100000

theorem take_code {s : Ps} (hp : s.pl ≠ 0 ∧ s.pl ≠ 6 ∧ s.pl ≠ 7) {c : Nat} (h : 32 ≤ c ∧ c ≤ 126) : takeP s c = stepP s c := by
  rw [take_mid hp (by omega)]
  unfold takeWithinP
  rw [if_neg (by omega), if_neg (by omega), if_neg (by omega), Nat.mod_eq_of_lt (by omega)]
theorem run_thru {st : Ps} {last : Nat} (hT : Thru last st) (hl : last ≤ 127) (R : List Nat) : ∀ (B A : List Nat), inB last A → inB last B → runQ (foldS st A) (B ++ R) = runQ (foldS st (A ++ B)) R := by
  intro B
  induction B with
  | nil => intro A _ _; rw [List.append_nil]; rfl
  | cons d B ih =>
    intro A hA hB
    have hd := hB d (by simp)
    rw [List.cons_append, run_cons, take_code (hT.pl A hA) ⟨hd.1, by omega⟩, hT.tk A hA d hd.1 hd.2, em0, ← foldS_snoc, ih (A ++ [d]) (inB_snoc hA hd) (fun x hx => hB x (by simp [hx])), List.append_assoc]
    rfl
theorem run_head {st : Ps} {last : Nat} (hT : Thru last st) (hl : last ≤ 127) (B R : List Nat) (hB : inB last B) : runQ st (B ++ R) = runQ (foldS st B) R := run_thru hT hl R B [] (inB_nil last) hB
theorem run_begin (R : List Nat) : runQ ps0 (27 :: R) = runQ begP R := by
  rw [run_cons, show takeP ps0 27 = (begP, tok0) from rfl, em0]
  rfl
theorem run_one {s s' : Ps} {c : Nat} {t : Tok} (h : takeP s c = (s', t)) : runQ s [c] = (s', em t) := by
  rw [run_cons, h]
  show (s', em t ++ []) = _
  rw [List.append_nil]
theorem esc_last (B : List Nat) (hB : inB 48 B) (h3 : B.length ≤ 3) (c : Nat) (hc : 48 ≤ c ∧ c ≤ 126) (hl : B = [] → leadsB c = false) : takeP (foldS begP B) c = (ps0, ⟨3, c, 0, [], bstr B, []⟩) := by
  have hI : pInter c = false := by simp [pInter]; omega
  rw [esc_fold B hB, take_code (stE_pl B) ⟨by omega, hc.2⟩]
  unfold stE
  by_cases h0 : B = []
  · subst h0
    rw [if_pos rfl]
    have hn : ¬ (c = 91) ∧ ¬ (c = 80) ∧ ¬ (c = 93) ∧ ¬ (c = 88) ∧ ¬ (c = 94) ∧ ¬ (c = 95) ∧ ¬ (c = 92) := by
      have := hl rfl
      unfold leadsB at this
      refine ⟨?_, ?_, ?_, ?_, ?_, ?_, ?_⟩ <;> (intro e; subst e; revert this; decide)
    have e : stepP begP c = takeEscapedP begP c := rfl
    rw [e]
    unfold takeEscapedP
    rw [if_neg hn.1, if_neg hn.2.1, if_neg hn.2.2.1, if_neg hn.2.2.2.1, if_neg hn.2.2.2.2.1, if_neg hn.2.2.2.2.2.1, if_neg hn.2.2.2.2.2.2]
    unfold takeEscIntersP
    rw [hI]
    rfl
  · rw [if_neg h0]
    have hv : decide (3 < B.length) = false := by simp; omega
    rw [hv, List.take_of_length_le h3]
    have e : stepP {begP with pl := 2, it := bstr B, vo := false} c = takeEscIntersP {begP with pl := 2, it := bstr B, vo := false} c := rfl
    rw [e]
    unfold takeEscIntersP
    rw [hI]
    rfl
theorem run_esc (B : List Nat) (hB : inB 48 B) (h3 : B.length ≤ 3) (c : Nat) (hc : 48 ≤ c ∧ c ≤ 126) (hl : B = [] → leadsB c = false) : runQ ps0 (27 :: (B ++ [c])) = (ps0, [⟨3, c, 0, [], bstr B, []⟩]) := by
  rw [run_begin, run_head thru_esc (by decide) B [c] hB, run_one (esc_last B hB h3 c hc hl)]
  rfl
/-! Headers. -/
theorem u8l_natL (l : List UInt8) : u8l (natL l) = l := by
  unfold u8l natL
  rw [List.map_map]
  conv => rhs; rw [← List.map_id l]
  apply List.map_congr_left
  intro b _
  simp
theorem bstr_natL (s : ByteArray) : bstr (natL s.data.toList) = s := by
  apply ByteArray.ext
  apply Array.ext'
  rw [bstr_list]
  exact u8l_natL _
theorem cnt_app : ∀ (D I : List Nat), (∀ x ∈ D, 48 ≤ x) → (∀ x ∈ I, x < 48) → cntP (D ++ I) = D.length
  | [], I, _, hI => by
    cases I with
    | nil => rfl
    | cons x I => exact cnt_no I (by have := hI x (by simp); omega)
  | d :: D, I, hD, hI => by
    rw [List.cons_append, cnt_yes _ (hD d (by simp)), cnt_app D I (fun x hx => hD x (by simp [hx])) hI]
    rfl
def headL (m : Nat) (ps : List Int) (s : ByteArray) : List Nat := (if m = 0 then [] else [m]) ++ (natL (fmtL ps) ++ natL s.data.toList)
theorem signs_head (c m : Nat) (ps : List Int) (s : ByteArray) : signsL c m ps s = headL m ps s ++ [c] := by
  unfold signsL headL
  rw [List.append_assoc (if m = 0 then [] else [m])]
theorem head_mark (m : Nat) (hm : m = 0 ∨ (60 ≤ m ∧ m ≤ 63)) (ps : List Int) (s : ByteArray) (hi : ∀ n ∈ natL s.data.toList, 32 ≤ n ∧ n ≤ 47) : markP (headL m ps s) = (m, natL (fmtL ps) ++ natL s.data.toList) := by
  unfold headL
  by_cases h0 : m = 0
  · subst h0
    rw [if_pos rfl, List.nil_append]
    cases hx : natL (fmtL ps) ++ natL s.data.toList with
    | nil => rfl
    | cons x t =>
      rw [mark_cons, if_neg]
      rcases head_of hx with h | ⟨t', h⟩
      · have := fmt_dig ps x h; omega
      · have := hi x (by rw [h]; simp); omega
  · rw [if_neg h0, List.singleton_append, mark_cons, if_pos (by omega)]
theorem head_in (m : Nat) (hm : m = 0 ∨ (60 ≤ m ∧ m ≤ 63)) (ps : List Int) (s : ByteArray) (hi : ∀ n ∈ natL s.data.toList, 32 ≤ n ∧ n ≤ 47) : inB 64 (headL m ps s) := by
  intro x hx
  unfold headL at hx
  rcases List.mem_append.1 hx with h | h
  · split at h
    · cases h
    · simp at h; omega
  · rcases List.mem_append.1 h with h | h
    · have := fmt_dig ps x h; omega
    · have := hi x h; omega
structure HeadF (kd : Int) (m : Nat) (ps : List Int) (s : ByteArray) (q : Ps) : Prop where
  pl : q.pl = 3 ∨ q.pl = 4 ∨ q.pl = 5
  kd : q.kd = kd
  ds : q.ds = []
  vo : q.vo = false
  mr : q.mr = m
  fs : q.fs.take 30 = ps
  it : q.it = s
theorem head_fold (kd : Int) (m : Nat) (hm : m = 0 ∨ (60 ≤ m ∧ m ≤ 63)) (ps : List Int) (hl : ps.length ≤ 30) (hr : ps.any outB = false) (s : ByteArray) (h3 : s.size ≤ 3) (hi : ∀ n ∈ natL s.data.toList, 32 ≤ n ∧ n ≤ 47) : HeadF kd m ps s (foldS (S2 kd) (headL m ps s)) := by
  have F := fold3 kd _ (head_in m hm ps s hi)
  have hmk := head_mark m hm ps s hi
  have hc := cnt_app (natL (fmtL ps)) (natL s.data.toList) (fun x hx => (fmt_dig ps x hx).1) (fun x hx => by have := hi x hx; omega)
  have hg : goodP (headL m ps s) = true := by
    unfold goodP
    rw [hmk]
    dsimp only
    rw [hc, List.take_left, List.drop_left, u8l_natL]
    have h1 : (fmtL ps).all okb = true := (all_okb _).2 (fmt_back ps).1
    have h2 : low48 (natL s.data.toList) = true := by
      unfold low48
      rw [List.all_eq_true]
      intro x hx
      have := hi x hx
      simp; omega
    rw [h1, h2, decide_eq_true (by rw [natL_len, dlen]; exact h3)]
    rfl
  have hv : (foldS (S2 kd) (headL m ps s)).vo = false := by rw [F.vo, hg]; rfl
  refine ⟨F.pl, F.kd, F.ds, hv, ?_, ?_, ?_⟩
  · rw [F.mr hv, hmk]
  · rw [F.fs hv, hmk]
    dsimp only
    rw [hc, List.take_left, u8l_natL]
    have := (fmt_back ps).2
    rw [List.take_of_length_le hl, in_range hr] at this
    exact this
  · rw [F.it hv, hmk]
    dsimp only
    rw [hc, List.drop_left, bstr_natL]
theorem step_code (s : Ps) (hp : s.pl = 3 ∨ s.pl = 4 ∨ s.pl = 5) (c : Nat) (hc : 64 ≤ c ∧ c ≤ 126) : ∃ p, stepP s c = takeCodeP {s with pl := p} c := by
  have hC : pCode c = true := by simp [pCode]; omega
  have hM : pMark c = false := by simp [pMark]; omega
  have ho : okb (UInt8.ofNat c) = false := by
    have : ∀ k : Fin 127, 64 ≤ k.val → okb (UInt8.ofNat k.val) = false := by decide +kernel
    exact this ⟨c, by omega⟩ hc.1
  have hI : ∀ t : Ps, takeIntersP t c = takeCodeP t c := fun t => by unfold takeIntersP; rw [hC]; rfl
  have hN : ∀ t : Ps, takeNumbersP t c = takeCodeP t c := fun t => by unfold takeNumbersP; rw [ho]; exact hI t
  unfold stepP
  rcases hp with h | h | h
  · rw [if_neg (by omega), if_neg (by omega), if_pos h]
    unfold takeFirstP
    rw [hM]
    exact ⟨4, hN _⟩
  · rw [if_neg (by omega), if_neg (by omega), if_neg (by omega), if_pos h]
    refine ⟨4, ?_⟩
    rw [← h]
    exact hN s
  · rw [if_neg (by omega), if_neg (by omega), if_neg (by omega), if_neg (by omega)]
    refine ⟨5, ?_⟩
    rw [← h]
    exact hI s
theorem mid_of {s : Ps} (hp : s.pl = 3 ∨ s.pl = 4 ∨ s.pl = 5) : s.pl ≠ 0 ∧ s.pl ≠ 6 ∧ s.pl ≠ 7 := by omega
theorem run_lead (c : Nat) (hc : 32 ≤ c ∧ c ≤ 126) (s : Ps) (h : takeEscapedP begP c = (s, tok0)) (R : List Nat) : runQ ps0 (27 :: c :: R) = runQ s R := by
  rw [run_begin, run_cons, take_code (s := begP) (by refine ⟨?_, ?_, ?_⟩ <;> (show (1 : Int) ≠ _; decide)) hc, show stepP begP c = takeEscapedP begP c from rfl, h, em0]
  rfl
theorem run_csi (c m : Nat) (ps : List Int) (s : ByteArray) (hp : PartsOk c m ps s) (h3 : s.size ≤ 3) : runQ ps0 (27 :: 91 :: signsL c m ps s) = (ps0, [⟨4, c, m, ps, s, []⟩]) := by
  have F := head_fold 4 m hp.mark ps hp.len hp.rng s h3 hp.int
  rw [run_lead 91 (by decide) (S2 4) rfl, signs_head, run_head (thru_two 4) (by decide) _ _ (head_in m hp.mark ps s hp.int)]
  generalize foldS (S2 4) (headL m ps s) = q at *
  obtain ⟨p, e⟩ := step_code q F.pl c hp.code
  have h1 : takeP q c = (ps0, ⟨4, c, m, ps, s, []⟩) := by
    rw [take_code (mid_of F.pl) ⟨by have := hp.code; omega, hp.code.2⟩, e]
    unfold takeCodeP
    rw [if_neg (show ¬ (q.kd = 5) by rw [F.kd]; decide)]
    unfold endT
    dsimp only
    rw [if_neg (by rw [F.vo]; decide), F.kd, F.mr, F.fs, F.it, F.ds]
  rw [run_one h1]
  rfl
/-! Strings. -/
theorem run_data (s0 : Ps) (R : List Nat) : ∀ (l D : List Nat), (∀ n ∈ l, n < 256 ∧ dataB n = true) → runQ (txS s0 D) (l ++ R) = runQ (txS s0 (D ++ l)) R
  | [], D, _ => by rw [List.append_nil]; rfl
  | c :: l, D, h => by
    obtain ⟨h1, h2⟩ := h c (by simp)
    have hd := h2
    unfold dataB amongB at hd
    simp only [Bool.or_eq_true, Bool.and_eq_true, decide_eq_true_eq] at hd
    have hp : pData c = true := by
      unfold pData
      simp only [Bool.or_eq_true, Bool.and_eq_true, decide_eq_true_eq]
      omega
    have e : takeP (txS s0 D) c = (txS s0 (D ++ [c]), tok0) := by
      rw [take_six rfl (by omega)]
      unfold takeTextP
      rw [if_neg (by omega), if_neg (by omega), if_pos hp, txS_hold]
    rw [List.cons_append, run_cons, e, em0]
    dsimp only
    rw [run_data s0 R l (D ++ [c]) (fun n hn => h n (by simp [hn])), List.append_assoc]
    rfl
theorem run_end (s0 : Ps) (D : List Nat) : runQ (txS s0 D) [27, 92] = (ps0, em (endT (txS s0 D))) := by
  have e1 : takeP (txS s0 D) 27 = ({txS s0 D with pl := 7}, tok0) := by rw [take_six rfl (by decide)]; rfl
  have e2 : takeP {txS s0 D with pl := 7} 92 = (ps0, endT (txS s0 D)) := by
    unfold takeP takeTextEscapeP
    rw [if_pos ⟨rfl, by omega⟩, if_pos (.inl rfl)]
    rfl
  rw [run_cons, e1, em0]
  dsimp only
  rw [run_one e2]
  rfl
theorem tx_zero (s0 : Ps) (hp : s0.pl = 6) (hd : s0.ds = []) : txS s0 [] = s0 := by
  obtain ⟨a, b, c, d, e, f, g, h⟩ := s0
  cases hp; cases hd
  unfold txS
  simp
theorem run_text (s0 : Ps) (hp : s0.pl = 6) (hd : s0.ds = []) (hv : s0.vo = false) (hk : s0.kd ≠ 0) (l : List Nat) (hl : l.length ≤ 4096) (h : ∀ n ∈ l, n < 256 ∧ dataB n = true) : runQ s0 (l ++ [27, 92]) = (ps0, [⟨s0.kd, s0.cd, s0.mr, s0.fs.take 30, s0.it, l⟩]) := by
  have q := run_data s0 [27, 92] l [] h
  rw [tx_zero s0 hp hd, List.nil_append] at q
  rw [q, run_end, end_tx s0 hk, hv, decide_eq_true hl]
  rfl
theorem run_dcs (c m : Nat) (ps : List Int) (s : ByteArray) (hp : PartsOk c m ps s) (h3 : s.size ≤ 3) (l : List Nat) (hl : l.length ≤ 4096) (h : ∀ n ∈ l, n < 256 ∧ dataB n = true) : runQ ps0 (27 :: 80 :: (signsL c m ps s ++ (l ++ [27, 92]))) = (ps0, [⟨5, c, m, ps, s, l⟩]) := by
  have F := head_fold 5 m hp.mark ps hp.len hp.rng s h3 hp.int
  rw [run_lead 80 (by decide) (S2 5) rfl, signs_head, List.append_assoc, run_head (thru_two 5) (by decide) _ _ (head_in m hp.mark ps s hp.int)]
  generalize foldS (S2 5) (headL m ps s) = q at *
  obtain ⟨p, e⟩ := step_code q F.pl c hp.code
  have h1 : takeP q c = ({q with cd := c, pl := 6}, tok0) := by
    rw [take_code (mid_of F.pl) ⟨by have := hp.code; omega, hp.code.2⟩, e]
    unfold takeCodeP
    rw [if_pos (show q.kd = 5 from F.kd)]
  rw [List.singleton_append, run_cons, h1, em0]
  dsimp only
  rw [run_text {q with cd := c, pl := 6} rfl F.ds F.vo (by show q.kd ≠ 0; rw [F.kd]; decide) l hl h]
  dsimp only
  rw [F.kd, F.mr, F.fs, F.it]
  rfl
theorem run_str (k : Int) (hk : 6 ≤ k ∧ k ≤ 9) (l : List Nat) (hl : l.length ≤ 4096) (h : ∀ n ∈ l, n < 256 ∧ dataB n = true) : runQ ps0 (27 :: begN k :: (l ++ [27, 92])) = (ps0, [⟨k, 0, 0, [], ⟨#[]⟩, l⟩]) := by
  have h4 : k = 6 ∨ k = 7 ∨ k = 8 ∨ k = 9 := by omega
  have e : takeEscapedP begP (begN k) = ({begP with kd := k, pl := 6}, tok0) ∧ 32 ≤ begN k ∧ begN k ≤ 126 := by
    rcases h4 with rfl | rfl | rfl | rfl <;> exact ⟨rfl, by decide, by decide⟩
  rw [run_lead _ e.2 _ e.1, run_text {begP with kd := k, pl := 6} rfl rfl rfl (by show k ≠ 0; omega) l hl h]
  rfl
/-! A token's bytes. -/
theorem str_nilU {s : ByteArray} (h : s.data.toList = []) : s = ⟨#[]⟩ := by
  apply ByteArray.ext
  apply Array.ext'
  rw [h]
theorem data_okU {m : Nat} {s : ByteArray} {dt : List Nat} (h : writtenB m s dt = true) : ∀ n ∈ dt, dataB n = true := by
  intro n hn
  unfold writtenB at h
  simp only [Bool.and_eq_true] at h
  have h1 := h.2.2
  simp only [Bool.not_eq_true', List.any_eq_false] at h1
  have := h1 n hn
  rw [noData_eq] at this
  simpa using this
theorem fmt_nil : fmtL [] = [] := rfl
theorem run_back {k : Int} {c m : Nat} {ps : List Int} {s : ByteArray} {dt : List Nat} (h : checkP k c m ps s dt = 0) (hd : ∀ n ∈ dt, n < 256) : runQ ps0 (bytesL k c m ps s dt false) = (ps0, [⟨k, c, m, ps, s, dt⟩]) := by
  obtain ⟨_, _, h3, _, h4096, _, _, hcd, hw⟩ := check_zero h
  have hdt : ∀ n ∈ dt, n < 256 ∧ dataB n = true := fun n hn => ⟨hd n hn, data_okU hw n hn⟩
  rcases tk_valid h with ⟨hk, h27, _, h2, rfl, rfl, hs, rfl⟩ | ⟨rfl, h48, h126, hl, hi, rfl, rfl, rfl⟩ | ⟨rfl, hp, rfl⟩ | ⟨rfl, hp⟩ | ⟨h6, h9, rfl, rfl, rfl, hs⟩
  · have hb : bytesL k c 0 [] s [] false = [c] := if_pos hk
    rw [hb, str_nilU hs]
    rcases hk with rfl | rfl
    · have hc : 32 ≤ c := by
        have : ¬ ((1 : Int) = 2) := by decide
        have := mt h2.2 this
        omega
      have e : takeP ps0 c = (ps0, prtT c) := by
        unfold takeP takeP0 takePl takeOutsideP
        rw [if_neg (fun h => absurd h.1 (by decide)), if_neg (by omega), if_pos (show ps0.pl = 0 from rfl), if_neg h27, if_neg (by omega), if_neg (by omega)]
      rw [run_one e]
      rfl
    · have hc := h2.1 rfl
      have h24 : c ≠ 24 := by
        intro e; subst e; simp [codedB] at hcd
      have e : takeP ps0 c = (ps0, ctlT c) := by
        unfold takeP takeP0 takePl takeOutsideP
        rw [if_neg (fun h => absurd h.1 (by decide))]
        rw [if_pos (show ps0.pl = 0 from rfl), if_neg h27, if_neg h24, if_pos hc]
        split <;> rfl
      rw [run_one e]
      rfl
  · have hb : bytesL 3 c 0 [] s [] false = 27 :: (natL s.data.toList ++ [c]) := by
      show escL c 0 [] s false = _
      unfold escL
      split
      · rename_i h0
        have e0 : s.data.toList = [] := List.eq_nil_of_length_eq_zero (by rw [dlen]; exact h0)
        rw [e0]
        unfold leadL
        rw [if_neg (fun h => absurd h.1 (by decide))]
        rfl
      · unfold signsL
        rw [fmt_nil]
        rfl
    rw [hb, run_esc (natL s.data.toList) (fun n hn => by have := hi n hn; omega) (by rw [natL_len, dlen]; exact h3) c ⟨h48, h126⟩ (fun e => hl (List.map_eq_nil_iff.1 e)), bstr_natL]
  · have hb : bytesL 4 c m ps s [] false = 27 :: 91 :: signsL c m ps s := by
      show [27, 91] ++ signsL c m ps s ++ [] = _
      rw [List.append_nil]; rfl
    rw [hb, run_csi c m ps s hp h3]
  · have hb : bytesL 5 c m ps s dt false = 27 :: 80 :: (signsL c m ps s ++ (dt ++ [27, 92])) := by
      show [27, 80] ++ signsL c m ps s ++ (dt ++ [27, 92]) = _
      rw [List.append_assoc]; rfl
    rw [hb, run_dcs c m ps s hp h3 dt h4096 hdt]
  · have hb : bytesL k 0 0 [] s dt false = 27 :: begN k :: (dt ++ [27, 92]) := by
      unfold bytesL
      rw [if_neg (by omega), if_neg (by omega), if_neg (by omega), if_neg (by omega)]
      unfold leadL
      rw [if_neg (fun h => absurd h.1 (by decide)), if_neg (fun h => absurd h.1 (by decide))]
      rfl
    rw [hb, run_str k ⟨h6, h9⟩ dt h4096 hdt, str_nilU hs]
/-! In eight bits, too. -/
theorem plainL_appU (l m : List Nat) : plainL (l ++ m) = plainL l ++ plainL m := by unfold plainL; rw [List.flatMap_append]
theorem plainL_id (l : List Nat) (h : ∀ n ∈ l, 1 ≤ n ∧ n ≠ 127 ∧ ¬ (128 ≤ n ∧ n < 160)) : plainL l = l := by
  induction l with
  | nil => rfl
  | cons c l ih =>
    have hc := h c (by simp)
    have e : plainC c = [c] := by unfold plainC; rw [if_neg (by omega), if_neg hc.2.2]
    show plainC c ++ plainL l = _
    rw [e, ih (fun n hn => h n (by simp [hn]))]
    rfl
theorem plain_lead (c : Nat) (hc : 32 ≤ c ∧ c ≤ 126) (e : Bool) : plainL (leadL c e) = [27, c] := by
  unfold leadL
  split
  · rename_i h
    unfold plainL plainC
    rw [List.flatMap_singleton, if_neg (by omega), if_pos (by omega)]
    simp
  · exact plainL_id _ (fun n hn => by simp at hn; omega)
theorem signs_low {c m : Nat} {ps : List Int} {s : ByteArray} (hp : PartsOk c m ps s) : ∀ n ∈ signsL c m ps s, 1 ≤ n ∧ n ≠ 127 ∧ ¬ (128 ≤ n ∧ n < 160) := by
  intro n hn
  rw [signs_head] at hn
  rcases List.mem_append.1 hn with h | h
  · have := head_in m hp.mark ps s hp.int n h; omega
  · have := hp.code; simp at h; omega
theorem data_low {dt : List Nat} (h : ∀ n ∈ dt, dataB n = true) : ∀ n ∈ dt, 1 ≤ n ∧ n ≠ 127 ∧ ¬ (128 ≤ n ∧ n < 160) := by
  intro n hn
  have := h n hn
  unfold dataB amongB at this
  simp only [Bool.or_eq_true, Bool.and_eq_true, decide_eq_true_eq] at this
  omega
theorem plain_back {k : Int} {c m : Nat} {ps : List Int} {s : ByteArray} {dt : List Nat} (h : checkP k c m ps s dt = 0) (e : Bool) : plainL (bytesL k c m ps s dt e) = bytesL k c m ps s dt false := by
  obtain ⟨_, _, h3, _, _, _, _, hcd, hw⟩ := check_zero h
  have hdt := data_low (data_okU hw)
  have hf : ∀ c, leadL c false = [27, c] := fun c => by unfold leadL; rw [if_neg (fun h => absurd h.1 (by decide))]
  rcases tk_valid h with ⟨hk, h27, h128, h2, rfl, rfl, hs, rfl⟩ | ⟨rfl, h48, h126, hl, hi, rfl, rfl, rfl⟩ | ⟨rfl, hp, rfl⟩ | ⟨rfl, hp⟩ | ⟨h6, h9, rfl, rfl, rfl, hs⟩
  · have hb : ∀ e, bytesL k c 0 [] s [] e = [c] := fun e => if_pos hk
    rw [hb, hb]
    have h0 : c ≠ 0 ∧ c ≠ 127 := by
      unfold codedB at hcd
      rcases hk with rfl | rfl
      · rw [if_pos rfl] at hcd
        unfold amongB at hcd
        simp only [Bool.or_eq_true, Bool.and_eq_true, decide_eq_true_eq] at hcd
        omega
      · rw [if_neg (by decide), if_pos rfl] at hcd
        unfold amongB at hcd
        simp only [Bool.and_eq_true, decide_eq_true_eq] at hcd
        omega
    exact plainL_id _ (fun n hn => by simp at hn; omega)
  · have hb : ∀ e, bytesL 3 c 0 [] s [] e = escL c 0 [] s e := fun e => rfl
    rw [hb, hb]
    unfold escL
    split
    · rw [plain_lead c ⟨by omega, h126⟩, hf]
    · refine plainL_id _ (fun n hn => ?_)
      rcases List.mem_cons.1 hn with rfl | hn
      · omega
      · unfold signsL at hn
        rw [fmt_nil] at hn
        rcases List.mem_append.1 hn with hn | hn
        · have := hi n (by simpa [natL] using hn); omega
        · simp at hn; omega
  · have hb : ∀ e, bytesL 4 c m ps s [] e = leadL 91 e ++ signsL c m ps s := fun e => by show leadL 91 e ++ signsL c m ps s ++ [] = _; rw [List.append_nil]
    rw [hb, hb, plainL_appU, plain_lead 91 (by decide), plainL_id _ (signs_low hp), hf]
  · have hb : ∀ e, bytesL 5 c m ps s dt e = leadL 80 e ++ signsL c m ps s ++ (dt ++ leadL 92 e) := fun e => rfl
    rw [hb, hb, plainL_appU, plainL_appU, plainL_appU, plain_lead 80 (by decide), plain_lead 92 (by decide), plainL_id _ (signs_low hp), plainL_id _ hdt, hf, hf]
  · have hb : ∀ e, bytesL k 0 0 [] s dt e = leadL (begN k) e ++ [] ++ (dt ++ leadL 92 e) := fun e => by
      unfold bytesL
      rw [if_neg (by omega), if_neg (by omega), if_neg (by omega), if_neg (by omega)]
    have hb2 : 32 ≤ begN k ∧ begN k ≤ 126 := by
      have h4 : k = 6 ∨ k = 7 ∨ k = 8 ∨ k = 9 := by omega
      rcases h4 with rfl | rfl | rfl | rfl <;> decide
    rw [hb, hb, plainL_appU, plainL_appU, plainL_appU, plain_lead _ hb2, plain_lead 92 (by decide), plainL_id _ hdt, hf, hf]
    rfl
/-- What a token's bytes say. -/
theorem feed_tok {k : Int} {c m : Nat} {ps : List Int} {s : ByteArray} {dt : List Nat} (h : checkP k c m ps s dt = 0) (hd : ∀ n ∈ dt, n < 256) (e : Bool) : feedL ps0 (bytesL k c m ps s dt e) = (ps0, [⟨k, c, m, ps, s, dt⟩]) := by
  rw [feedL_run, plain_back h e]
  exact run_back h hd
def Tok.can (t : Tok) : Prop := t.cd < 256 ∧ checkP t.kd t.cd t.mr t.ps t.it t.dt = 0 ∧ ∀ n ∈ t.dt, n < 256
def Tok.bys (t : Tok) (e : Bool) : List Nat := bytesL t.kd t.cd t.mr t.ps t.it t.dt e
theorem feed_toks (e : Bool) : ∀ (ts : List Tok), (∀ t ∈ ts, t.can) → feedL ps0 (ts.flatMap fun t => t.bys e) = (ps0, ts)
  | [], _ => rfl
  | t :: ts, h => by
    have ht := h t (by simp)
    rw [List.flatMap_cons, feedL_append]
    show ((feedL (feedL ps0 (t.bys e)).1 _).1, _) = _
    have q : feedL ps0 (t.bys e) = (ps0, [t]) := feed_tok ht.2.1 ht.2.2 e
    rw [q]
    dsimp only
    rw [feed_toks e ts (fun t ht => h t (by simp [ht]))]
    rfl
theorem bys_len {t : Tok} (h : t.can) (e : Bool) : (t.bys e).length ≤ 4290 := by
  obtain ⟨_, _, h3, _, h4, _, _, _, _⟩ := check_zero h.2.1
  unfold Tok.bys bytesL
  have l1 := signs_len t.cd t.mr t.ps t.it h3
  split
  · simp
  · split
    · unfold escL
      split
      · have := lead_len t.cd e; omega
      · simp only [List.length_cons]; omega
    · simp only [List.length_append]
      have l2 := lead_len (begN t.kd) e
      have l3 := lead_len 92 e
      have l4 : (if t.kd = 4 ∨ t.kd = 5 then signsL t.cd t.mr t.ps t.it else []).length ≤ 190 := by
        split
        · exact l1
        · simp
      have l5 : (if t.kd = 4 then [] else t.dt ++ leadL 92 e).length ≤ 4098 := by
        split
        · simp
        · rw [List.length_append]; omega
      omega
theorem lead_le (c : Nat) : (leadL c true).length ≤ (leadL c false).length := by
  unfold leadL
  rw [if_neg (show ¬ (false = true ∧ 64 ≤ c ∧ c ≤ 95) from fun h => absurd h.1 (by decide))]
  split <;> simp
theorem bys_le (t : Tok) : (t.bys true).length ≤ (t.bys false).length := by
  unfold Tok.bys bytesL
  split
  · exact Nat.le_refl _
  · split
    · unfold escL
      split
      · exact lead_le _
      · exact Nat.le_refl _
    · simp only [List.length_append]
      have l2 := lead_le (begN t.kd)
      have l3 := lead_le 92
      have l5 : (if t.kd = 4 then [] else t.dt ++ leadL 92 true).length ≤ (if t.kd = 4 then [] else t.dt ++ leadL 92 false).length := by
        split
        · exact Nat.le_refl _
        · simp only [List.length_append]; omega
      omega
theorem toks_le (ts : List Tok) : (ts.flatMap fun t => t.bys true).length ≤ (ts.flatMap fun t => t.bys false).length := by
  induction ts with
  | nil => exact Nat.le_refl _
  | cons t ts ih => rw [List.flatMap_cons, List.flatMap_cons, List.length_append, List.length_append]; have := bys_le t; omega
end Go.Proofs.YtfnamfkjbkhgeaaGreatDoor

namespace Go.Proofs.YtfnamfkjbkhgeaaGreatDoor

open Go Go.RowKit
set_option maxRecDepth 100000

/-- Where nothing is begun, nothing is left. -/
def Zs (s : Ps) : Prop := s.pl = 0 → s = ps0
theorem Zne {s : Ps} (h : s.pl ≠ 0) : Zs s := fun e => absurd e h
theorem Z0 : Zs ps0 := fun _ => rfl
theorem Z_code (s : Ps) (c : Nat) : Zs (takeCodeP s c).1 := by
  unfold takeCodeP
  split
  · exact Zne (by show (6 : Int) ≠ 0; decide)
  · exact Z0
theorem Z_inters (s : Ps) (h : s.pl ≠ 0) (c : Nat) : Zs (takeIntersP s c).1 := by
  unfold takeIntersP
  split
  · exact Z_code s c
  · split
    · exact Zne (by show (takeInterP _ _).pl ≠ 0; rw [pl_inter]; show (5 : Int) ≠ 0; decide)
    · exact Zne h
theorem Z_numbers (s : Ps) (h : s.pl ≠ 0) (c : Nat) : Zs (takeNumbersP s c).1 := by
  unfold takeNumbersP
  split
  · exact Zne h
  · exact Z_inters s h c
theorem Z_first (s : Ps) (c : Nat) : Zs (takeFirstP s c).1 := by
  unfold takeFirstP
  split
  · exact Zne (by show (4 : Int) ≠ 0; decide)
  · exact Z_numbers _ (by show (4 : Int) ≠ 0; decide) c
theorem Z_escI (s : Ps) (c : Nat) : Zs (takeEscIntersP s c).1 := by
  unfold takeEscIntersP
  split
  · exact Zne (by show (takeInterP _ _).pl ≠ 0; rw [pl_inter]; show (2 : Int) ≠ 0; decide)
  · exact Z_code s c
theorem Z_esc (s : Ps) (c : Nat) : Zs (takeEscapedP s c).1 := by
  unfold takeEscapedP
  split; exact Zne (by show (3 : Int) ≠ 0; decide)
  split; exact Zne (by show (3 : Int) ≠ 0; decide)
  split; exact Zne (by show (6 : Int) ≠ 0; decide)
  split; exact Zne (by show (6 : Int) ≠ 0; decide)
  split; exact Zne (by show (6 : Int) ≠ 0; decide)
  split; exact Zne (by show (6 : Int) ≠ 0; decide)
  split; exact Z0
  exact Z_escI s c
theorem Z_step (s : Ps) (h : s.pl ≠ 0) (c : Nat) : Zs (stepP s c).1 := by
  unfold stepP
  split; exact Z_esc _ _
  split; exact Z_escI _ _
  split; exact Z_first _ _
  split; exact Z_numbers _ h _
  exact Z_inters _ h _
theorem Z_beg : Zs begP := Zne (by show (1 : Int) ≠ 0; decide)
theorem Z_pl (s : Ps) (hz : Zs s) (c : Nat) : Zs (takePl s c).1 := by
  unfold takePl
  split
  · unfold takeOutsideP
    split; exact Z_beg
    split; exact hz
    split; exact hz
    exact hz
  · rename_i h0
    split
    · unfold takeTextP
      split; exact Zne (by show (7 : Int) ≠ 0; decide)
      split; exact Z0
      split; exact Zne (by show (holdP _ _).pl ≠ 0; rw [pl_hold]; exact h0)
      exact hz
    · unfold takeWithinP
      split; exact Z_beg
      split; exact hz
      split; exact hz
      exact Z_step s h0 _
theorem Z_take (s : Ps) (hz : Zs s) (c : Nat) : Zs (takeP s c).1 := by
  have h0 : ∀ s, Zs s → Zs (takeP0 s c).1 := fun s hz => by
    unfold takeP0
    split
    · exact Z_pl ps0 Z0 c
    · exact Z_pl s hz c
  unfold takeP
  split
  · unfold takeTextEscapeP
    split
    · exact Z0
    · exact h0 begP Z_beg
  · exact h0 s hz
theorem Z_run (l : List Nat) : ∀ s, Zs s → Zs (runQ s l).1 := by
  induction l with
  | nil => intro s hz; exact hz
  | cons c l ih => intro s hz; rw [run_cons]; exact ih _ (Z_take s hz c)
theorem Z_feed (ns : List Nat) : Zs (feedL ps0 ns).1 := by rw [feedL_run]; exact Z_run _ _ Z0
theorem psU : Tryz.prog.underlying 121 = some (.struct (Tryz.prog.fieldsOf 121)) := by kernel_rfl
theorem psS : (Tryz.prog.info? 121).map (·.size) = some 4136 := by kernel_rfl
theorem cells_one (s : Ps) : s.cells.toArray.all (·.oneCell') = true := by
  rw [Array.all_eq_true_iff_forall_mem]
  intro v hv
  simp only [List.mem_toArray] at hv
  unfold Ps.cells at hv
  rcases List.mem_append.1 hv with hv | hv
  · unfold Ps.beg Ps.acc at hv
    simp only [List.mem_cons, List.mem_append, List.mem_map, List.not_mem_nil, or_false] at hv
    rcases hv with rfl | rfl | rfl | rfl | rfl | rfl | rfl | hv
    · rfl
    · rfl
    · rfl
    · rfl
    · rfl
    · rfl
    · rfl
    · rcases hv with (⟨x, _, rfl⟩ | rfl) | (rfl | rfl) <;> rfl
  · unfold Ps.dat at hv
    rcases List.mem_append.1 hv with hv | hv
    · obtain ⟨x, _, rfl⟩ := List.mem_map.1 hv
      rfl
    · rw [List.eq_of_mem_replicate hv]; rfl



/-- A parser's box, where another block is turned. -/
theorem PsB.other {w w' : World} {g k : Nat} {s : Ps} (h : PsB w g s) (hg : w.grownBy w' (some k)) (hne : g ≠ k) : PsB w' g s := ⟨(hg.block g h.lt (by simp; omega)).trans h.blk, h.ok⟩
/-- .. where a list is grown. -/
theorem PsB.list {w w' : World} {g b n sz : Nat} {T : TypeId} {s : Ps} {v : Value} {xs : List Value} (h : PsB w g s) (ho : w.ownsRow b T sz v n xs) (hT : T ≠ 121) (hg : w.grownBy w' v.ownBlock) : PsB w' g s :=
  ⟨(hg.block g h.lt (fun e => own_ty ho h.blk hT e.symm)).trans h.blk, h.ok⟩
theorem OTl.box {w w' : World} {base g : Nat} {cs : Array Value} (hb : Blk w g 121 cs) (hg : w.grownBy w' (some g)) : ∀ {xs : List (Array Value)} {ts : List Tok}, OTl w base xs ts → OTl w' base xs ts
  | [], [], _ => trivial
  | _ :: _, _ :: _, h => by
    obtain ⟨⟨A, c, B, d, e, h1, h2⟩, h3⟩ := h
    exact ⟨⟨A, c, B, d, e, World.ownsRow.kept (oints_own h1) hg (.inr (own_ty (oints_own h1) hb (by decide))), World.ownsRow.kept h2 hg (.inr (own_ty h2 hb (by decide)))⟩, OTl.box hb hg h3⟩
/-- A list of tokens, where a parser's box is turned. -/
theorem OTks.box {w w' : World} {base g : Nat} {cs : Array Value} {v : Value} {ts : List Tok} (h : OTks w base v ts) (hb : Blk w g 121 cs) (hg : w.grownBy w' (some g)) : OTks w' base v ts := by
  obtain ⟨xs, h1, h2⟩ := h
  exact ⟨xs, World.ownsRow.kept h1 hg (.inr (own_ty h1 hb (by decide))), h2.box hb hg⟩
theorem rbyt_row {w W : World} {A : Option Addr} {ns : List Nat} {row : Option Nat} (h : RByt w A ns) (hg : w.grownBy W row) (hA : ∀ ad, 0 < ns.length → A = some ad → row ≠ some ad.block) : RByt W A ns := by
  refine ⟨h.1, fun hn => ?_⟩
  obtain ⟨ad, rfl, hb, hc⟩ := h.2 hn
  refine ⟨ad, rfl, Nat.lt_of_lt_of_le hb hg.size, fun j u hu => ?_⟩
  have hk := hg.block ad.block hb (fun e => hA ad hn rfl e.symm)
  have := hc j u hu
  unfold World.cell? at this ⊢
  rw [add_blk] at this ⊢
  rw [hk]
  exact this
end Go.Proofs.YtfnamfkjbkhgeaaGreatDoor

namespace Go.Proofs.YtfnamfkjbkhgeaaGreatDoor

open Go Go.RowKit
set_option maxRecDepth 100000

def bsL (ts : List Tok) (k : Nat) (e : Bool) : List Nat := (ts.take k).flatMap fun t => t.bys e
theorem bsL_succ {ts : List Tok} {k : Nat} (h : k < ts.length) (e : Bool) : bsL ts (k + 1) e = bsL ts k e ++ ts[k].bys e := by
  unfold bsL
  rw [List.take_succ_eq_append_getElem h, List.flatMap_append, List.flatMap_singleton]
theorem bsL_all (ts : List Tok) (e : Bool) : bsL ts ts.length e = ts.flatMap fun t => t.bys e := by unfold bsL; rw [List.take_length]
theorem flat_len (e : Bool) : ∀ l : List Tok, (∀ t ∈ l, t.can) → (l.flatMap fun t => t.bys e).length ≤ l.length * 4290
  | [], _ => by simp
  | t :: l, h => by
    rw [List.flatMap_cons, List.length_append, List.length_cons]
    have h1 := bys_len (h t (by simp)) e
    have h2 := flat_len e l (fun t ht => h t (by simp [ht]))
    omega
theorem bsL_len {ts : List Tok} (h : ∀ t ∈ ts, t.can) (k : Nat) (e : Bool) : (bsL ts k e).length ≤ ts.length * 4290 := by
  have h1 := flat_len e (ts.take k) (fun t ht => h t (List.mem_of_mem_take ht))
  have h2 : (ts.take k).length ≤ ts.length := by rw [List.length_take]; omega
  have h3 := Nat.mul_le_mul_right 4290 h2
  unfold bsL
  omega
theorem lead_ltV (c : Nat) (hc : c < 192) (e : Bool) : ∀ n ∈ leadL c e, n < 256 := by
  intro n hn
  unfold leadL at hn
  split at hn
  · simp at hn; omega
  · simp at hn; omega
theorem signs_lt {c m : Nat} {ps : List Int} {s : ByteArray} (hp : PartsOk c m ps s) : ∀ n ∈ signsL c m ps s, n < 256 := by
  intro n hn
  rw [signs_head] at hn
  rcases List.mem_append.1 hn with h | h
  · have := head_in m hp.mark ps s hp.int n h; omega
  · have := hp.code; simp at h; omega
theorem bys_lt {t : Tok} (h : t.can) (e : Bool) : ∀ n ∈ t.bys e, n < 256 := by
  obtain ⟨k, c, m, ps, s, dt⟩ := t
  obtain ⟨hc, hq, hd⟩ := h
  dsimp only at hc hq hd
  show ∀ n ∈ bytesL k c m ps s dt e, n < 256
  rcases tk_valid hq with ⟨hk, _, _, _, rfl, rfl, hs, rfl⟩ | ⟨rfl, h48, h126, hl, hi, rfl, rfl, rfl⟩ | ⟨rfl, hp, rfl⟩ | ⟨rfl, hp⟩ | ⟨h6, h9, rfl, rfl, rfl, hs⟩
  · have hb : bytesL k c 0 [] s [] e = [c] := if_pos hk
    rw [hb]
    intro n hn; simp at hn; omega
  · have hb : bytesL 3 c 0 [] s [] e = escL c 0 [] s e := rfl
    rw [hb]
    unfold escL
    split
    · exact lead_ltV c (by omega) e
    · intro n hn
      rcases List.mem_cons.1 hn with rfl | hn
      · omega
      · unfold signsL at hn
        rw [fmt_nil] at hn
        rcases List.mem_append.1 hn with hn | hn
        · have := hi n (by simpa [natL] using hn); omega
        · simp at hn; omega
  · have hb : bytesL 4 c m ps s [] e = leadL 91 e ++ signsL c m ps s := by show leadL 91 e ++ signsL c m ps s ++ [] = _; rw [List.append_nil]
    rw [hb]
    intro n hn
    rcases List.mem_append.1 hn with hn | hn
    · exact lead_ltV 91 (by decide) e n hn
    · exact signs_lt hp n hn
  · have hb : bytesL 5 c m ps s dt e = leadL 80 e ++ signsL c m ps s ++ (dt ++ leadL 92 e) := rfl
    rw [hb]
    intro n hn
    rcases List.mem_append.1 hn with hn | hn
    · rcases List.mem_append.1 hn with hn | hn
      · exact lead_ltV 80 (by decide) e n hn
      · exact signs_lt hp n hn
    · rcases List.mem_append.1 hn with hn | hn
      · exact hd n hn
      · exact lead_ltV 92 (by decide) e n hn
  · have hb : bytesL k 0 0 [] s dt e = leadL (begN k) e ++ [] ++ (dt ++ leadL 92 e) := by
      unfold bytesL
      rw [if_neg (by omega), if_neg (by omega), if_neg (by omega), if_neg (by omega)]
    have hb2 : begN k < 192 := by
      have h4 : k = 6 ∨ k = 7 ∨ k = 8 ∨ k = 9 := by omega
      rcases h4 with rfl | rfl | rfl | rfl <;> decide
    rw [hb, List.append_nil]
    intro n hn
    rcases List.mem_append.1 hn with hn | hn
    · exact lead_ltV _ hb2 e n hn
    · rcases List.mem_append.1 hn with hn | hn
      · exact hd n hn
      · exact lead_ltV 92 (by decide) e n hn
theorem bsL_lt {ts : List Tok} (h : ∀ t ∈ ts, t.can) (k : Nat) (e : Bool) : ∀ n ∈ bsL ts k e, n < 256 := by
  intro n hn
  unfold bsL at hn
  obtain ⟨t, ht, hn⟩ := List.mem_flatMap.1 hn
  exact bys_lt (h t (List.mem_of_mem_take ht)) e n hn
/-- What Bytes answers of a token that can be. -/
theorem bytes_yes {w w' : World} {e : Ending} {k : Int} {c m : Nat} {ps : List Int} {s : ByteArray} {dt : List Nat} {eight : Bool} (h : BytesR w w' e k c m ps s dt eight) (hq : checkP k c m ps s dt = 0) :
    ∃ A c', e = .returned (.tuple #[.slice A (bytesL k c m ps s dt eight).length c', .int .i64 0]) ∧ RByt w' A (bytesL k c m ps s dt eight) ∧ ∀ ad, 0 < (bytesL k c m ps s dt eight).length → A = some ad → w.heap.size ≤ ad.block := by
  rcases h with ⟨h0, _⟩ | ⟨_, v, rfl, ho⟩
  · exact absurd hq h0
  · obtain ⟨A, c', rfl⟩ := ho.form
    refine ⟨A, c', rfl, ho.reads, fun ad _ e => ?_⟩
    have := (World.ownsRow.lt (obyt_own ho) ad.block (by rw [e]; rfl)).1
    omega
/-- What is kept from token to token. -/
structure BiW (w1 : World) (ts : List Tok) (k : Nat) (v3 v4 : Value) (W : World) : Prop where
  a : W.ownsRow w1.heap.size 5 1 v3 (bsL ts k false).length (u8s (bsL ts k false))
  b : W.ownsRow w1.heap.size 5 1 v4 (bsL ts k true).length (u8s (bsL ts k true))
  ne : ∀ i, v3.ownBlock = some i → v4.ownBlock ≠ some i
  bel : Below w1.heap.size w1 W
theorem BiW.start (w1 : World) (ts : List Tok) : BiW w1 ts 0 (.slice none 0 0) (.slice none 0 0) w1 :=
  ⟨World.ownsRow_nil _ _ _ _, World.ownsRow_nil _ _ _ _, (fun i h => by cases h), Below.refl _ _⟩
theorem BiW.next {w1 W W' : World} {ts : List Tok} {k : Nat} {v3 v4 : Value} (h : BiW w1 ts k v3 v4 W) (hb : Below W.heap.size W W') : BiW w1 ts k v3 v4 W' :=
  ⟨own_more h.a hb, own_more h.b hb, h.ne, h.bel.trans (hb.mono h.bel.size)⟩
theorem BiW.mid {w1 W W1 : World} {ts : List Tok} {k : Nat} {v3 v4 : Value} (h : BiW w1 ts k v3 v4 W) (g1 : W.grownBy W1 v3.ownBlock) : W1.ownsRow w1.heap.size 5 1 v4 (bsL ts k true).length (u8s (bsL ts k true)) := by
  refine World.ownsRow.kept (row := v3.ownBlock) h.b g1 ?_
  rcases h3 : v3.ownBlock with _ | i
  · rcases h4 : v4.ownBlock with _ | j
    · exact .inl rfl
    · exact .inr (by simp)
  · exact .inr (h.ne i h3)
theorem BiW.push {w1 W W1 W2 : World} {ts : List Tok} {k : Nat} {v3 v4 v3' v4' : Value} {n1 n2 : Nat} {x1 x2 : List Value} (h : BiW w1 ts k v3 v4 W)
    (e1 : n1 = (bsL ts (k + 1) false).length) (e2 : n2 = (bsL ts (k + 1) true).length) (z1 : x1 = u8s (bsL ts (k + 1) false)) (z2 : x2 = u8s (bsL ts (k + 1) true))
    (o1 : W1.ownsRow w1.heap.size 5 1 v3' n1 x1) (g1 : W.grownBy W1 v3.ownBlock) (l1 : v3'.ownBlock = v3.ownBlock ∨ v3'.ownBlock = some W.heap.size)
    (o2 : W2.ownsRow w1.heap.size 5 1 v4' n2 x2) (g2 : W1.grownBy W2 v4.ownBlock) (l2 : v4'.ownBlock = v4.ownBlock ∨ v4'.ownBlock = some W1.heap.size) : BiW w1 ts (k + 1) v3' v4' W2 := by
  subst e1 e2 z1 z2
  have h4 : ∀ j, v4.ownBlock = some j → j < W.heap.size := fun j hj => (World.ownsRow.lt h.b j hj).2
  have hne : ∀ i, v3'.ownBlock = some i → v4.ownBlock ≠ some i := fun i hi e => by
    rcases l1 with l1 | l1
    · exact h.ne i (by rw [← l1]; exact hi) e
    · rw [hi] at l1
      injection l1 with l1
      have := h4 i e
      omega
  refine ⟨World.ownsRow.kept (row := v4.ownBlock) o1 g2 ?_, o2, fun i hi e => ?_, ?_⟩
  · rcases h3 : v3'.ownBlock with _ | i
    · exact .inl rfl
    · exact .inr (fun e => hne i h3 e.symm)
  · rcases l2 with l2 | l2
    · exact hne i hi (by rw [← l2]; exact e)
    · rw [e] at l2
      injection l2 with l2
      have := (World.ownsRow.lt o1 i hi).2
      omega
  · have q1 := below_row h.bel g1 (own_ge h.a) h.bel.size
    exact below_row q1 g2 (own_ge h.b) q1.size
theorem own_capV {w : World} {base n c : Nat} {e : TypeId} {A : Option Addr} {xs : List Value} (h : w.ownsRow base e 1 (.slice A n c) n xs) : n ≤ c := by
  rcases h.2 with ⟨hv, h0⟩ | ⟨g, cap, cur, hv, hb, hg, hnc, _⟩
  · omega
  · cases hv; exact hnc
theorem otl_at : ∀ {w : World} {base : Nat} {xs : List (Array Value)} {ts : List Tok} (_ : OTl w base xs ts) (k : Nat) (hk : k < ts.length), ∃ A c B d, OInts w base (.slice A ts[k].ps.length c) ts[k].ps ∧ OByt w base (.slice B ts[k].dt.length d) ts[k].dt ∧ ∀ j u, (ts[k].cs A c B d)[j]? = some u → (xs.flatMap Array.toList)[k * 6 + j]? = some u
  | _, _, [], [], _, k, hk => by simp at hk
  | w, base, x :: xs, t :: ts, h, 0, _ => by
    obtain ⟨⟨A, c, B, d, e, h1, h2⟩, h3⟩ := h
    injection e with e
    subst e
    refine ⟨A, c, B, d, h1, h2, fun j u hu => ?_⟩
    have hj : j < 6 := by
      have := (Array.getElem?_eq_some_iff.1 hu).1
      simpa [Tok.cs] using this
    rw [List.flatMap_cons, Nat.zero_mul, Nat.zero_add, List.getElem?_append_left (by simpa [Tok.cs] using hj)]
    simpa using hu
  | w, base, x :: xs, t :: ts, h, k + 1, hk => by
    obtain ⟨⟨A, c, B, d, e, h1, h2⟩, h3⟩ := h
    injection e with e
    obtain ⟨A', c', B', d', g1, g2, g3⟩ := otl_at h3 k (by simpa using hk)
    refine ⟨A', c', B', d', g1, g2, fun j u hu => ?_⟩
    rw [List.flatMap_cons, List.getElem?_append_right (by subst e; simp [Tok.cs]; omega)]
    have hx : x.toList.length = 6 := by subst e; simp [Tok.cs]
    rw [hx, show (k + 1) * 6 + j - 6 = k * 6 + j from by omega]
    exact g3 j u hu
/-- A token of a list of one's own. -/
theorem OTks.at_ {w : World} {base n : Nat} {A : Option Addr} {ts : List Tok} (h : OTks w base (.slice A ts.length n) ts) {k : Nat} (hk : k < ts.length) : ∃ ad P pc D dc, A = some ad ∧ ts[k].ps.length ≤ pc ∧ RInts w P ts[k].ps ∧ RByt w D ts[k].dt ∧
    w.cell? (ad.add (k * 6)) = some (.int .i64 ts[k].kd) ∧ w.cell? ⟨(ad.add (k * 6)).block, (ad.add (k * 6)).off + 1, none⟩ = some (.int .u8 (ts[k].cd : Int)) ∧ w.cell? ⟨(ad.add (k * 6)).block, (ad.add (k * 6)).off + 2, none⟩ = some (.int .u8 (ts[k].mr : Int)) ∧
    w.cell? ⟨(ad.add (k * 6)).block, (ad.add (k * 6)).off + 3, none⟩ = some (.slice P ts[k].ps.length pc) ∧ w.cell? ⟨(ad.add (k * 6)).block, (ad.add (k * 6)).off + 4, none⟩ = some (.string ts[k].it) ∧ w.cell? ⟨(ad.add (k * 6)).block, (ad.add (k * 6)).off + 5, none⟩ = some (.slice D ts[k].dt.length dc) := by
  obtain ⟨xs, h1, h2⟩ := h
  obtain ⟨ad, rfl, hb, hc⟩ := (Reads.of_own h1).2 (by omega)
  obtain ⟨P, pc, D, dc, g1, g2, g3⟩ := otl_at h2 k hk
  have a1 : (⟨(ad.add (k * 6)).block, (ad.add (k * 6)).off + 1, none⟩ : Addr) = ad.add (k * 6 + 1) := (show _ = (ad.add (k * 6)).add 1 from rfl).trans (add_of_add ad _ _)
  have a2 : (⟨(ad.add (k * 6)).block, (ad.add (k * 6)).off + 2, none⟩ : Addr) = ad.add (k * 6 + 2) := (show _ = (ad.add (k * 6)).add 2 from rfl).trans (add_of_add ad _ _)
  have a3 : (⟨(ad.add (k * 6)).block, (ad.add (k * 6)).off + 3, none⟩ : Addr) = ad.add (k * 6 + 3) := (show _ = (ad.add (k * 6)).add 3 from rfl).trans (add_of_add ad _ _)
  have a4 : (⟨(ad.add (k * 6)).block, (ad.add (k * 6)).off + 4, none⟩ : Addr) = ad.add (k * 6 + 4) := (show _ = (ad.add (k * 6)).add 4 from rfl).trans (add_of_add ad _ _)
  have a5 : (⟨(ad.add (k * 6)).block, (ad.add (k * 6)).off + 5, none⟩ : Addr) = ad.add (k * 6 + 5) := (show _ = (ad.add (k * 6)).add 5 from rfl).trans (add_of_add ad _ _)
  refine ⟨ad, P, pc, D, dc, rfl, own_capV (oints_own g1), OInts.reads g1, OByt.reads g2, ?_⟩
  rw [a1, a2, a3, a4, a5]
  exact ⟨hc _ _ (g3 0 _ rfl), hc _ _ (g3 1 _ rfl), hc _ _ (g3 2 _ rfl), hc _ _ (g3 3 _ rfl), hc _ _ (g3 4 _ rfl), hc _ _ (g3 5 _ rfl)⟩

def Dk (s : Ps) : Prop := ∀ n ∈ s.ds, n < 256
def DT (r : Ps × Tok) : Prop := Dk r.1 ∧ ∀ n ∈ r.2.dt, n < 256
theorem D0 : Dk ps0 := fun n h => by cases h
theorem Db : Dk begP := fun n h => by cases h
theorem dz : ∀ n ∈ tok0.dt, n < 256 := fun n h => by cases h
theorem dt_end {s : Ps} (h : Dk s) : ∀ n ∈ (endT s).dt, n < 256 := by
  unfold endT
  split
  · exact dz
  · exact h
theorem DT_code {s : Ps} (h : Dk s) (c : Nat) : DT (takeCodeP s c) := by
  unfold takeCodeP
  split
  · exact ⟨h, dz⟩
  · exact ⟨D0, dt_end (s := {s with cd := c}) h⟩
theorem D_inter {s : Ps} (h : Dk s) (c : Nat) : Dk (takeInterP s c) := by
  unfold takeInterP
  split <;> exact h
theorem DT_inters {s : Ps} (h : Dk s) (c : Nat) : DT (takeIntersP s c) := by
  unfold takeIntersP
  split
  · exact DT_code h c
  · split
    · exact ⟨D_inter (s := {s with pl := 5}) h c, dz⟩
    · exact ⟨h, dz⟩
theorem DT_numbers {s : Ps} (h : Dk s) (c : Nat) : DT (takeNumbersP s c) := by
  unfold takeNumbersP
  split
  · exact ⟨h, dz⟩
  · exact DT_inters h c
theorem DT_first {s : Ps} (h : Dk s) (c : Nat) : DT (takeFirstP s c) := by
  unfold takeFirstP
  split
  · exact ⟨h, dz⟩
  · exact DT_numbers (s := {s with pl := 4}) h c
theorem DT_escI {s : Ps} (h : Dk s) (c : Nat) : DT (takeEscIntersP s c) := by
  unfold takeEscIntersP
  split
  · exact ⟨D_inter (s := {s with pl := 2}) h c, dz⟩
  · exact DT_code h c
theorem DT_esc {s : Ps} (h : Dk s) (c : Nat) : DT (takeEscapedP s c) := by
  unfold takeEscapedP
  split; exact ⟨h, dz⟩
  split; exact ⟨h, dz⟩
  split; exact ⟨h, dz⟩
  split; exact ⟨h, dz⟩
  split; exact ⟨h, dz⟩
  split; exact ⟨h, dz⟩
  split; exact ⟨D0, dz⟩
  exact DT_escI h c
theorem DT_step {s : Ps} (h : Dk s) (c : Nat) : DT (stepP s c) := by
  unfold stepP
  split; exact DT_esc h c
  split; exact DT_escI h c
  split; exact DT_first h c
  split; exact DT_numbers h c
  exact DT_inters h c
theorem DT_pl {s : Ps} (h : Dk s) (c : Nat) (hc : c < 256) : DT (takePl s c) := by
  have hz : ∀ c, ∀ n ∈ (ctlT c).dt, n < 256 := fun c n h => by cases h
  have hy : ∀ c, ∀ n ∈ (prtT c).dt, n < 256 := fun c n h => by cases h
  unfold takePl
  split
  · unfold takeOutsideP
    split; exact ⟨Db, dz⟩
    split; exact ⟨h, dz⟩
    split; exact ⟨h, hz c⟩
    exact ⟨h, hy c⟩
  · split
    · unfold takeTextP
      split; exact ⟨h, dz⟩
      split; exact ⟨D0, dt_end h⟩
      split
      · refine ⟨?_, dz⟩
        show Dk (holdP s c)
        unfold holdP
        split
        · exact h
        · intro n hn
          rcases List.mem_append.1 (show n ∈ s.ds ++ [c] from hn) with hn | hn
          · exact h n hn
          · simp at hn; omega
      · exact ⟨h, dz⟩
    · unfold takeWithinP
      split; exact ⟨Db, dz⟩
      split; exact ⟨h, hz c⟩
      split; exact ⟨h, dz⟩
      exact DT_step h _
theorem DT_take {s : Ps} (h : Dk s) (c : Nat) (hc : c < 256) : DT (takeP s c) := by
  have h0 : ∀ s, Dk s → DT (takeP0 s c) := fun s h => by
    unfold takeP0
    split
    · exact DT_pl D0 c hc
    · exact DT_pl h c hc
  unfold takeP
  split
  · unfold takeTextEscapeP
    split
    · exact ⟨D0, dt_end h⟩
    · exact h0 begP Db
  · exact h0 s h
theorem D_feedC {s : Ps} (h : Dk s) (c : Nat) (hc : c < 256) : Dk (feedC s c).1 ∧ ∀ t ∈ (feedC s c).2, ∀ n ∈ t.dt, n < 256 := by
  unfold feedC
  split
  · exact ⟨h, fun t ht => by cases ht⟩
  · refine ⟨(DT_take h c hc).1, fun t ht => ?_⟩
    dsimp only at ht
    split at ht
    · cases ht
    · obtain rfl : t = (takeP s c).2 := by simpa using ht
      exact (DT_take h c hc).2
theorem D_feedB {s : Ps} (h : Dk s) (c : Nat) (hc : c < 256) : Dk (feedB s c).1 ∧ ∀ t ∈ (feedB s c).2, ∀ n ∈ t.dt, n < 256 := by
  unfold feedB hiP
  split
  · exact D_feedC (DT_take h 27 (by decide)).1 _ (by omega)
  · exact D_feedC h c hc
theorem D_fold (l : List Nat) : ∀ r : Ps × List Tok, Dk r.1 → (∀ t ∈ r.2, ∀ n ∈ t.dt, n < 256) → (∀ n ∈ l, n < 256) → ∀ t ∈ (l.foldl (fun r c => ((feedB r.1 c).1, r.2 ++ (feedB r.1 c).2)) r).2, ∀ n ∈ t.dt, n < 256 := by
  induction l with
  | nil => intro r _ h2 _; exact h2
  | cons c l ih =>
    intro r h h2 hn
    have h3 := D_feedB h c (hn c (by simp))
    refine ih ((feedB r.1 c).1, r.2 ++ (feedB r.1 c).2) h3.1 (fun t ht => ?_) (fun n hm => hn n (by simp [hm]))
    rcases List.mem_append.1 ht with ht | ht
    · exact h2 t ht
    · exact h3.2 t ht
/-- Every token that a stream says can be said again. -/
theorem toks_can (l : List Nat) (hn : ∀ n ∈ l, n < 256) : ∀ t ∈ (feedL ps0 l).2, t.can := fun t ht => by
  have h1 := (V_feedL V0 l hn).2 t ht
  have g := tokG_of h1.1 h1.2
  exact ⟨g.cd, g.chk, D_fold l (ps0, []) D0 (fun t ht => by cases ht) hn t ht⟩
end Go.Proofs.YtfnamfkjbkhgeaaGreatDoor

/-
  What the laws of the parser share: a fixed fact, the first bytes of a stream.
  Every token that is said can be: what is known of a parser at each place.
  Every token that is said can be: the steps.
-/
import Derived.Test.YtigaaidacndeiaaDoorPrsR
import Derived.Lib.SlBytesConst
import Derived.Test.YtigaaidacndeiaaDoorTokI
namespace Go.Proofs.YtigaaidacndeiaaDoor

open Go Go.RowKit


def awkNs : List Nat := [97, 27, 91, 49, 59, 10, 50, 109]
theorem awk_feed : (feedL ps0 awkNs).2 = [prtT 97, ctlT 10, ⟨4, 109, 0, [1, 2], ⟨#[]⟩, []⟩] := by kernel_rfl

end Go.Proofs.YtigaaidacndeiaaDoor

namespace Go.Proofs.YtigaaidacndeiaaDoor

open Go Go.RowKit

def okT (t : Tok) : Prop := t.kd = 0 ∨ (t.cd < 256 ∧ checkP t.kd t.cd t.mr t.ps t.it t.dt = 0)
def mrOk (m : Nat) : Prop := m = 0 ∨ (60 ≤ m ∧ m ≤ 63)
def itOk (s : ByteArray) : Prop := s.data.toList.all interB = true
def dtOk (l : List Nat) : Prop := ∀ n ∈ l, noDataB n = false
structure Ev (s : Ps) : Prop where
  kd : s.kd = 3
  cd : s.cd = 0
  mr : s.mr = 0
  fs : s.fs = []
  ds : s.ds = []
  it : itOk s.it
structure Cv (s : Ps) : Prop where
  kd : s.kd = 4 ∨ s.kd = 5
  mr : mrOk s.mr
  it : itOk s.it
  ds : s.ds = []
structure Dv (s : Ps) : Prop where
  kd : s.kd = 5
  cd : 64 ≤ s.cd ∧ s.cd ≤ 126
  mr : mrOk s.mr
  it : itOk s.it
structure Ov (s : Ps) : Prop where
  kd : 6 ≤ s.kd ∧ s.kd ≤ 9
  cd : s.cd = 0
  mr : s.mr = 0
  fs : s.fs = []
  it : s.it = ⟨#[]⟩
def VV (s : Ps) : Prop := s.pl = 0 ∨ (s.pl = 1 ∧ Ev s ∧ s.it = ⟨#[]⟩) ∨ (s.pl = 2 ∧ Ev s ∧ 0 < s.it.size) ∨ ((s.pl = 3 ∨ s.pl = 4 ∨ s.pl = 5) ∧ Cv s) ∨ ((s.pl = 6 ∨ s.pl = 7) ∧ (Dv s ∨ Ov s) ∧ dtOk s.ds)
/-- What is known of a parser. -/
structure V (s : Ps) : Prop where
  ok : s.ok
  at_ : VV s
def VT (r : Ps × Tok) : Prop := V r.1 ∧ okT r.2
theorem okT0 : okT tok0 := .inl rfl
theorem itOk0 : itOk ⟨#[]⟩ := rfl
theorem V0 : V ps0 := ⟨ps0_ok, .inl rfl⟩
theorem Vb : V begP := ⟨ps0_ok.to rfl rfl rfl, .inr (.inl ⟨rfl, ⟨rfl, rfl, rfl, rfl, rfl, itOk0⟩, rfl⟩)⟩
theorem out_none {fs : List Int} (h : InF fs) : (fs.take 30).any outB = false := by
  rw [List.any_eq_false]
  intro n hn
  have := h n (List.mem_of_mem_take hn)
  simp [outB, clipP]; omega
theorem small_ok {s : Ps} (h : s.ok) : smallB (s.fs.take 30) s.it s.ds = true := by
  unfold smallB
  rw [out_none h.fs]
  have h1 := h.it; have h2 := h.ds
  simp; omega
theorem bstr0 : bstr [] = ⟨#[]⟩ := rfl
theorem check_of {k : Int} {c m : Nat} {ps : List Int} {s : ByteArray} {dt : List Nat} (hk : 1 ≤ k ∧ k ≤ 9) (h1 : smallB ps s dt = true) (h2 : pureB k c m ps s dt = true) (h3 : codedB k c s = true) (h4 : writtenB m s dt = true) : checkP k c m ps s dt = 0 := by
  unfold checkP
  rw [if_neg (by omega), h1, h2, h3, h4]
  rfl
theorem small0 : smallB [] ⟨#[]⟩ [] = true := rfl
theorem pure1 (c : Nat) : pureB 1 c 0 [] ⟨#[]⟩ [] = true := by unfold pureB; rw [if_pos (.inl rfl)]; decide +kernel
theorem pure2 (c : Nat) : pureB 2 c 0 [] ⟨#[]⟩ [] = true := by unfold pureB; rw [if_pos (.inr rfl)]; decide +kernel
theorem pure3 (c : Nat) (s : ByteArray) : pureB 3 c 0 [] s [] = true := by unfold pureB; rw [if_neg (by decide), if_pos rfl]; decide +kernel
theorem pure4 (c m : Nat) (ps : List Int) (s : ByteArray) : pureB 4 c m ps s [] = true := by unfold pureB; rw [if_neg (by decide), if_neg (by decide), if_pos rfl]; decide +kernel
theorem wr0 : writtenB 0 ⟨#[]⟩ [] = true := by decide +kernel
theorem okT_ctl (c : Nat) (h : 1 ≤ c ∧ c < 32) (h24 : c ≠ 24) (h27 : c ≠ 27) : okT (ctlT c) := by
  refine .inr ⟨by show c < 256; omega, check_of (k := 2) ⟨by decide, by decide⟩ small0 (pure2 c) ?_ wr0⟩
  show codedB 2 c _ = true
  unfold codedB amongB
  rw [if_neg (by decide), if_pos rfl]
  simp; omega
theorem okT_prt (c : Nat) (h : 32 ≤ c ∧ c ≤ 255) (h127 : c ≠ 127) (hh : ¬ (128 ≤ c ∧ c ≤ 159)) : okT (prtT c) := by
  refine .inr ⟨by show c < 256; omega, check_of (k := 1) ⟨by decide, by decide⟩ small0 (pure1 c) ?_ wr0⟩
  show codedB 1 c _ = true
  unfold codedB amongB
  rw [if_pos rfl]
  simp; omega
theorem w_ok {m : Nat} {s : ByteArray} {dt : List Nat} (hm : mrOk m) (hi : itOk s) (hd : dtOk dt) : writtenB m s dt = true := by
  unfold writtenB amongB
  have h1 : dt.any noDataB = false := by rw [List.any_eq_false]; intro n hn; rw [hd n hn]; simp
  rw [h1, show s.data.toList.all interB = true from hi]
  rcases hm with h | h
  · simp [h]
  · simp; omega
theorem dt0 : dtOk [] := fun n hn => by cases hn
theorem okT_esc {s : Ps} (ho : s.ok) (h : Ev s) (c : Nat) (hc : 48 ≤ c ∧ c ≤ 126) (hl : s.it.size ≠ 0 ∨ leadsB c = false) : okT (endT {s with cd := c}) := by
  unfold endT
  cases hv : s.vo with
  | true => exact okT0
  | false =>
    refine .inr ⟨by show c < 256; omega, ?_⟩
    show checkP s.kd c s.mr (s.fs.take 30) s.it s.ds = 0
    have h1 := small_ok ho
    rw [h.fs, h.ds] at h1 ⊢
    rw [h.kd, h.mr]
    refine check_of ⟨by decide, by decide⟩ h1 (pure3 c _) ?_ (w_ok (.inl rfl) h.it dt0)
    unfold codedB amongB
    rw [if_neg (by decide), if_neg (by decide), if_pos rfl]
    rcases hl with hl | hl
    · simp [hl]; omega
    · simp [hl]; omega
theorem okT_csi {s : Ps} (ho : s.ok) (h : Cv s) (hk : s.kd = 4) (c : Nat) (hc : 64 ≤ c ∧ c ≤ 126) : okT (endT {s with cd := c}) := by
  unfold endT
  cases hv : s.vo with
  | true => exact okT0
  | false =>
    refine .inr ⟨by show c < 256; omega, ?_⟩
    show checkP s.kd c s.mr (s.fs.take 30) s.it s.ds = 0
    have h1 := small_ok ho
    rw [h.ds] at h1 ⊢
    rw [hk]
    refine check_of ⟨by decide, by decide⟩ h1 (pure4 _ _ _ _) ?_ (w_ok h.mr h.it dt0)
    unfold codedB amongB
    rw [if_neg (by decide), if_neg (by decide), if_neg (by decide), if_pos (by decide)]
    simp; omega
theorem okT_dcs {s : Ps} (ho : s.ok) (h : Dv s) (hd : dtOk s.ds) : okT (endT s) := by
  unfold endT
  cases hv : s.vo with
  | true => exact okT0
  | false =>
    refine .inr ⟨by have := h.cd; show s.cd < 256; omega, ?_⟩
    show checkP s.kd s.cd s.mr (s.fs.take 30) s.it s.ds = 0
    rw [h.kd]
    refine check_of ⟨by decide, by decide⟩ (small_ok ho) rfl ?_ (w_ok h.mr h.it hd)
    unfold codedB amongB
    rw [if_neg (by decide), if_neg (by decide), if_neg (by decide), if_pos (by decide)]
    have := h.cd
    simp; omega
theorem okT_osc {s : Ps} (ho : s.ok) (h : Ov s) (hd : dtOk s.ds) : okT (endT s) := by
  unfold endT
  cases hv : s.vo with
  | true => exact okT0
  | false =>
    refine .inr ⟨by have := h.cd; show s.cd < 256; omega, ?_⟩
    show checkP s.kd s.cd s.mr (s.fs.take 30) s.it s.ds = 0
    have hk := h.kd
    refine check_of ⟨by omega, by omega⟩ (small_ok ho) ?_ ?_ (w_ok (.inl h.mr) (by rw [h.it]; exact itOk0) hd)
    · rw [h.cd, h.mr, h.fs, h.it]
      unfold pureB
      rw [if_neg (by omega), if_neg (by omega), if_neg (by omega), if_neg (by omega)]
      simp [sameQ]
    · unfold codedB
      rw [if_neg (by omega), if_neg (by omega), if_neg (by omega), if_neg (by omega)]
end Go.Proofs.YtigaaidacndeiaaDoor

namespace Go.Proofs.YtigaaidacndeiaaDoor

open Go Go.RowKit

theorem ch_inter (c : Nat) (h : 32 ≤ c ∧ c ≤ 47) : interB (UInt8.ofNat c) = true := by
  unfold interB amongB
  have : (UInt8.ofNat c).toNat = c := by simp; omega
  rw [this]
  simp; omega
theorem itOk_snoc {s : ByteArray} (h : itOk s) (c : Nat) (hc : 32 ≤ c ∧ c ≤ 47) : itOk (s ++ chB c) := by
  unfold itOk chB at *
  rw [ByteArray.data_append, Array.toList_append, List.all_append, h]
  simpa using ch_inter c hc
theorem ch_size (c : Nat) : (chB c).size = 1 := rfl
/-- An Inter more. -/
structure InterF (s t : Ps) : Prop where
  pl : t.pl = s.pl
  kd : t.kd = s.kd
  cd : t.cd = s.cd
  mr : t.mr = s.mr
  fs : t.fs = s.fs
  ds : t.ds = s.ds
  it : itOk t.it
  sz : 0 < t.it.size
  ok : t.ok
theorem inter_facts {s : Ps} (ho : s.ok) (hi : itOk s.it) (c : Nat) (hc : 32 ≤ c ∧ c ≤ 47) : InterF s (takeInterP s c) := by
  unfold takeInterP
  by_cases h : s.it.size = 3
  · rw [if_pos h]
    exact ⟨rfl, rfl, rfl, rfl, rfl, rfl, hi, by show 0 < s.it.size; omega, ho.to rfl rfl rfl⟩
  · rw [if_neg h]
    have h3 := ho.it
    refine ⟨rfl, rfl, rfl, rfl, rfl, rfl, itOk_snoc hi c hc, ?_, ho.fs, ho.ds, ?_⟩
    · show 0 < (s.it ++ chB c).size
      rw [ByteArray.size_append, ch_size]; omega
    · show (s.it ++ chB c).size ≤ 3
      rw [ByteArray.size_append, ch_size]; omega
theorem pInter_iff {c : Nat} (h : pInter c = true) : 32 ≤ c ∧ c ≤ 47 := by simpa [pInter] using h
theorem VT_codeE {s : Ps} (ho : s.ok) (h : Ev s) (c : Nat) (hc : 48 ≤ c ∧ c ≤ 126) (hl : s.it.size ≠ 0 ∨ leadsB c = false) : VT (takeCodeP s c) := by
  unfold takeCodeP
  rw [if_neg (by rw [h.kd]; decide)]
  exact ⟨V0, okT_esc ho h c hc hl⟩
theorem VT_codeC {s : Ps} (ho : s.ok) (h : Cv s) (c : Nat) (hc : 64 ≤ c ∧ c ≤ 126) : VT (takeCodeP s c) := by
  unfold takeCodeP
  by_cases h5 : s.kd = 5
  · rw [if_pos h5]
    exact ⟨⟨ho.to rfl rfl rfl, .inr (.inr (.inr (.inr ⟨.inl rfl, .inl ⟨h5, hc, h.mr, h.it⟩, by show dtOk s.ds; rw [h.ds]; exact dt0⟩)))⟩, okT0⟩
  · rw [if_neg h5]
    exact ⟨V0, okT_csi ho h (by rcases h.kd with e | e; exact e; exact absurd e h5) c hc⟩
theorem VV_C {s : Ps} (hp : s.pl = 3 ∨ s.pl = 4 ∨ s.pl = 5) (h : Cv s) : VV s := .inr (.inr (.inr (.inl ⟨hp, h⟩)))
theorem VT_inters {s : Ps} (ho : s.ok) (hp : s.pl = 3 ∨ s.pl = 4 ∨ s.pl = 5) (h : Cv s) (c : Nat) (hc : 32 ≤ c ∧ c ≤ 126) : VT (takeIntersP s c) := by
  unfold takeIntersP
  cases h1 : pCode c with
  | true =>
    rw [if_pos rfl]
    exact VT_codeC ho h c ⟨by simpa [pCode] using h1, hc.2⟩
  | false =>
    rw [if_neg (by simp)]
    cases h2 : pInter c with
    | true =>
      rw [if_pos rfl]
      have hf := inter_facts (s := {s with pl := 5}) (ho.to rfl rfl rfl) h.it c (pInter_iff h2)
      exact ⟨⟨hf.ok, VV_C (.inr (.inr hf.pl)) ⟨by rw [hf.kd]; exact h.kd, by rw [hf.mr]; exact h.mr, hf.it, by rw [hf.ds]; exact h.ds⟩⟩, okT0⟩
    | false =>
      rw [if_neg (by simp)]
      exact ⟨⟨ho.to rfl rfl rfl, VV_C hp ⟨h.kd, h.mr, h.it, h.ds⟩⟩, okT0⟩
theorem VT_numbers {s : Ps} (ho : s.ok) (hp : s.pl = 3 ∨ s.pl = 4 ∨ s.pl = 5) (h : Cv s) (c : Nat) (hc : 32 ≤ c ∧ c ≤ 126) : VT (takeNumbersP s c) := by
  unfold takeNumbersP
  cases h1 : okb (UInt8.ofNat c) with
  | true =>
    rw [if_pos rfl]
    exact ⟨⟨⟨stepF_range ho.fs h1, ho.ds, ho.it⟩, VV_C hp ⟨h.kd, h.mr, h.it, h.ds⟩⟩, okT0⟩
  | false =>
    rw [if_neg (by simp)]
    exact VT_inters ho hp h c hc
theorem VT_first {s : Ps} (ho : s.ok) (h : Cv s) (c : Nat) (hc : 32 ≤ c ∧ c ≤ 126) : VT (takeFirstP s c) := by
  unfold takeFirstP
  cases h1 : pMark c with
  | true =>
    rw [if_pos rfl]
    exact ⟨⟨ho.to rfl rfl rfl, VV_C (.inr (.inl rfl)) ⟨h.kd, .inr (by simpa [pMark] using h1), h.it, h.ds⟩⟩, okT0⟩
  | false =>
    rw [if_neg (by simp)]
    exact VT_numbers (s := {s with pl := 4}) (ho.to rfl rfl rfl) (.inr (.inl rfl)) ⟨h.kd, h.mr, h.it, h.ds⟩ c hc
theorem VT_escInters {s : Ps} (ho : s.ok) (h : Ev s) (c : Nat) (hc : 32 ≤ c ∧ c ≤ 126) (hl : s.it.size ≠ 0 ∨ leadsB c = false) : VT (takeEscIntersP s c) := by
  unfold takeEscIntersP
  cases h2 : pInter c with
  | true =>
    rw [if_pos rfl]
    have hf := inter_facts (s := {s with pl := 2}) (ho.to rfl rfl rfl) h.it c (pInter_iff h2)
    exact ⟨⟨hf.ok, .inr (.inr (.inl ⟨hf.pl, ⟨hf.kd.trans h.kd, hf.cd.trans h.cd, hf.mr.trans h.mr, hf.fs.trans h.fs, hf.ds.trans h.ds, hf.it⟩, hf.sz⟩))⟩, okT0⟩
  | false =>
    rw [if_neg (by simp)]
    refine VT_codeE ho h c ⟨?_, hc.2⟩ hl
    simp [pInter] at h2
    omega
theorem VT_goC {s : Ps} (ho : s.ok) (h : Ev s) (k : Int) (hk : k = 4 ∨ k = 5) : VT ({s with kd := k, pl := 3}, tok0) :=
  ⟨⟨ho.to rfl rfl rfl, VV_C (.inl rfl) ⟨hk, .inl h.mr, h.it, h.ds⟩⟩, okT0⟩
theorem VT_goO {s : Ps} (ho : s.ok) (h : Ev s) (hi : s.it = ⟨#[]⟩) (k : Int) (hk : 6 ≤ k ∧ k ≤ 9) : VT ({s with kd := k, pl := 6}, tok0) :=
  ⟨⟨ho.to rfl rfl rfl, .inr (.inr (.inr (.inr ⟨.inl rfl, .inr ⟨hk, h.cd, h.mr, h.fs, hi⟩, by show dtOk s.ds; rw [h.ds]; exact dt0⟩)))⟩, okT0⟩
theorem VT_escaped {s : Ps} (ho : s.ok) (h : Ev s) (hi : s.it = ⟨#[]⟩) (c : Nat) (hc : 32 ≤ c ∧ c ≤ 126) : VT (takeEscapedP s c) := by
  unfold takeEscapedP
  by_cases h1 : c = 91; · rw [if_pos h1]; exact VT_goC ho h 4 (.inl rfl)
  rw [if_neg h1]
  by_cases h2 : c = 80; · rw [if_pos h2]; exact VT_goC ho h 5 (.inr rfl)
  rw [if_neg h2]
  by_cases h3 : c = 93; · rw [if_pos h3]; exact VT_goO ho h hi 6 (by decide)
  rw [if_neg h3]
  by_cases h4 : c = 88; · rw [if_pos h4]; exact VT_goO ho h hi 7 (by decide)
  rw [if_neg h4]
  by_cases h5 : c = 94; · rw [if_pos h5]; exact VT_goO ho h hi 8 (by decide)
  rw [if_neg h5]
  by_cases h6 : c = 95; · rw [if_pos h6]; exact VT_goO ho h hi 9 (by decide)
  rw [if_neg h6]
  by_cases h7 : c = 92; · rw [if_pos h7]; exact ⟨V0, okT0⟩
  rw [if_neg h7]
  refine VT_escInters ho h c hc (.inr ?_)
  simp [leadsB]
  omega
/-- A byte that is there, of seven bits or behind those that are escapes. -/
def bv (c : Nat) : Prop := 1 ≤ c ∧ c ≤ 255 ∧ c ≠ 127 ∧ ¬ (128 ≤ c ∧ c ≤ 159)
theorem VT_outside {s : Ps} (h : V s) (c : Nat) (hc : bv c) (_hn : s.pl = 0) : VT (takeOutsideP s c) := by
  unfold takeOutsideP bv at *
  by_cases h1 : c = 27; · rw [if_pos h1]; exact ⟨Vb, okT0⟩
  rw [if_neg h1]
  by_cases h2 : c = 24; · rw [if_pos h2]; exact ⟨h, okT0⟩
  rw [if_neg h2]
  by_cases h3 : c < 32; · rw [if_pos h3]; exact ⟨h, okT_ctl c ⟨hc.1, h3⟩ h2 h1⟩
  rw [if_neg h3]
  exact ⟨h, okT_prt c ⟨by omega, hc.2.1⟩ hc.2.2.1 hc.2.2.2⟩
theorem data_ok (c : Nat) (hc : bv c) (h : pData c = true) : noDataB c = false := by
  unfold bv at hc
  unfold pData at h
  unfold noDataB amongB
  simp at h ⊢
  omega
theorem okT_end {s : Ps} (ho : s.ok) (h : Dv s ∨ Ov s) (hd : dtOk s.ds) : okT (endT s) := by
  rcases h with h | h
  · exact okT_dcs ho h hd
  · exact okT_osc ho h hd
theorem VT_text {s : Ps} (ho : s.ok) (hp : s.pl = 6) (h : Dv s ∨ Ov s) (hd : dtOk s.ds) (c : Nat) (hc : bv c) : VT (takeTextP s c) := by
  have hk : ∀ (t : Ps), t.kd = s.kd → t.cd = s.cd → t.mr = s.mr → t.it = s.it → t.fs = s.fs → Dv t ∨ Ov t := fun t e1 e2 e3 e4 e5 => by
    rcases h with h | h
    · exact .inl ⟨e1.trans h.kd, by rw [e2]; exact h.cd, by rw [e3]; exact h.mr, by rw [e4]; exact h.it⟩
    · exact .inr ⟨by rw [e1]; exact h.kd, e2.trans h.cd, e3.trans h.mr, e5.trans h.fs, e4.trans h.it⟩
  unfold takeTextP
  by_cases h1 : c = 27
  · rw [if_pos h1]
    exact ⟨⟨ho.to rfl rfl rfl, .inr (.inr (.inr (.inr ⟨.inr rfl, hk _ rfl rfl rfl rfl rfl, hd⟩)))⟩, okT0⟩
  rw [if_neg h1]
  by_cases h2 : c = 7 ∧ s.kd = 6
  · rw [if_pos h2]; exact ⟨V0, okT_end ho h hd⟩
  rw [if_neg h2]
  have hself : VV s := .inr (.inr (.inr (.inr ⟨.inl hp, h, hd⟩)))
  cases h3 : pData c with
  | true =>
    rw [if_pos rfl]
    refine ⟨?_, okT0⟩
    unfold holdP
    by_cases h4 : s.ds.length = 4096
    · rw [if_pos h4]
      exact ⟨ho.to rfl rfl rfl, .inr (.inr (.inr (.inr ⟨.inl hp, hk _ rfl rfl rfl rfl rfl, hd⟩)))⟩
    · rw [if_neg h4]
      have h5 := ho.ds
      refine ⟨⟨ho.fs, by show (s.ds ++ [c]).length ≤ 4096; simp; omega, ho.it⟩, .inr (.inr (.inr (.inr ⟨.inl hp, hk _ rfl rfl rfl rfl rfl, fun n hn => ?_⟩)))⟩
      rcases List.mem_append.1 hn with hn | hn
      · exact hd n hn
      · obtain rfl : n = c := by simpa using hn
        exact data_ok n hc h3
  | false =>
    rw [if_neg (by simp)]
    exact ⟨⟨ho, hself⟩, okT0⟩
theorem mod_seven {c : Nat} (hc : bv c) (h : ¬ c < 32) (h2 : ¬ c = 255) : 32 ≤ c % 128 ∧ c % 128 ≤ 126 := by unfold bv at hc; omega
theorem VT_within {s : Ps} (h : V s) (hp : 1 ≤ s.pl ∧ s.pl ≤ 5) (c : Nat) (hc : bv c) (h24 : c ≠ 24) : VT (takeWithinP s c) := by
  unfold takeWithinP
  by_cases h1 : c = 27; · rw [if_pos h1]; exact ⟨Vb, okT0⟩
  rw [if_neg h1]
  by_cases h2 : c < 32; · rw [if_pos h2]; exact ⟨h, okT_ctl c ⟨hc.1, h2⟩ h24 h1⟩
  rw [if_neg h2]
  by_cases h3 : c = 255; · rw [if_pos h3]; exact ⟨h, okT0⟩
  rw [if_neg h3]
  have hd := mod_seven hc h2 h3
  generalize c % 128 = d at *
  unfold stepP
  rcases h.at_ with e | ⟨e, hE, hi⟩ | ⟨e, hE, hz⟩ | ⟨e, hC⟩ | ⟨e, _, _⟩
  · omega
  · rw [if_pos e]; exact VT_escaped h.ok hE hi d hd
  · rw [if_neg (by omega), if_pos e]; exact VT_escInters h.ok hE d hd (.inl (by omega))
  · rw [if_neg (by omega), if_neg (by omega)]
    by_cases p3 : s.pl = 3
    · rw [if_pos p3]; exact VT_first h.ok hC d hd
    · rw [if_neg p3]
      by_cases p4 : s.pl = 4
      · rw [if_pos p4]; exact VT_numbers h.ok e hC d hd
      · rw [if_neg p4]; exact VT_inters h.ok e hC d hd
  · omega
theorem VT_take0 {s : Ps} (h : V s) (c : Nat) (hc : bv c) (h7 : s.pl = 7 → c = 24 ∨ c = 26) : VT (takeP0 s c) := by
  unfold takeP0
  by_cases hcc : c = 24 ∨ c = 26
  · rw [if_pos hcc]; exact VT_outside V0 c hc rfl
  · rw [if_neg hcc]
    have hn7 : s.pl ≠ 7 := fun e => hcc (h7 e)
    unfold takePl
    by_cases p0 : s.pl = 0
    · rw [if_pos p0]; exact VT_outside h c hc p0
    · rw [if_neg p0]
      by_cases p6 : s.pl = 6
      · rw [if_pos p6]
        rcases h.at_ with e | ⟨e, _, _⟩ | ⟨e, _, _⟩ | ⟨e, _⟩ | ⟨_, hT, hd⟩
        · omega
        · omega
        · omega
        · omega
        · exact VT_text h.ok p6 hT hd c hc
      · rw [if_neg p6]
        refine VT_within h ?_ c hc (fun e => hcc (.inl e))
        rcases h.at_ with e | ⟨e, _, _⟩ | ⟨e, _, _⟩ | ⟨e, _⟩ | ⟨e, _, _⟩ <;> omega
theorem VT_take {s : Ps} (h : V s) (c : Nat) (hc : bv c) : VT (takeP s c) := by
  unfold takeP
  by_cases h7 : s.pl = 7 ∧ ¬ (c = 24 ∨ c = 26)
  · rw [if_pos h7]
    unfold takeTextEscapeP
    by_cases he : c = 92 ∨ c = 220
    · rw [if_pos he]
      rcases h.at_ with e | ⟨e, _, _⟩ | ⟨e, _, _⟩ | ⟨e, _⟩ | ⟨_, hT, hd⟩
      · omega
      · omega
      · omega
      · omega
      · exact ⟨V0, okT_end h.ok hT hd⟩
    · rw [if_neg he]; exact VT_take0 Vb c hc (fun e => by cases e)
  · rw [if_neg h7]
    exact VT_take0 h c hc (fun e => by by_cases hcc : c = 24 ∨ c = 26; exact hcc; exact absurd ⟨e, hcc⟩ h7)
theorem V_feedB {s : Ps} (h : V s) (c : Nat) (hc : c < 256) : V (feedB s c).1 ∧ ∀ t ∈ (feedB s c).2, t.kd ≠ 0 ∧ okT t := by
  unfold feedB
  have h1 : V (hiP s c).1 ∧ ((hiP s c).2 = 0 ∨ (hiP s c).2 = 127 ∨ bv (hiP s c).2) := by
    unfold hiP
    by_cases hh : 128 ≤ c ∧ c ≤ 159
    · rw [if_pos hh]
      refine ⟨(VT_take h 27 ⟨by decide, by decide, by decide, by decide⟩).1, .inr (.inr ?_)⟩
      show bv (c - 64)
      unfold bv; omega
    · rw [if_neg hh]
      refine ⟨h, ?_⟩
      show c = 0 ∨ c = 127 ∨ bv c
      unfold bv; omega
  unfold feedC
  by_cases hz : (hiP s c).2 = 0 ∨ (hiP s c).2 = 127
  · rw [if_pos hz]; exact ⟨h1.1, fun t ht => by cases ht⟩
  · rw [if_neg hz]
    have h2 := VT_take h1.1 (hiP s c).2 (by rcases h1.2 with e | e | e; exact absurd (.inl e) hz; exact absurd (.inr e) hz; exact e)
    refine ⟨h2.1, fun t ht => ?_⟩
    simp only at ht
    split at ht
    · cases ht
    · rename_i hk
      obtain rfl : t = _ := by simpa using ht
      exact ⟨hk, h2.2⟩
theorem V_fold (l : List Nat) : ∀ r : Ps × List Tok, V r.1 → (∀ t ∈ r.2, t.kd ≠ 0 ∧ okT t) → (∀ n ∈ l, n < 256) → V (l.foldl (fun r c => ((feedB r.1 c).1, r.2 ++ (feedB r.1 c).2)) r).1 ∧ ∀ t ∈ (l.foldl (fun r c => ((feedB r.1 c).1, r.2 ++ (feedB r.1 c).2)) r).2, t.kd ≠ 0 ∧ okT t := by
  induction l with
  | nil => intro r h h2 _; exact ⟨h, h2⟩
  | cons c l ih =>
    intro r h h2 hn
    have h3 := V_feedB h c (hn c (by simp))
    refine ih ((feedB r.1 c).1, r.2 ++ (feedB r.1 c).2) h3.1 (fun t ht => ?_) (fun n hm => hn n (by simp [hm]))
    rcases List.mem_append.1 ht with ht | ht
    · exact h2 t ht
    · exact h3.2 t ht
/-- Every token that a stream says can be. -/
theorem V_feedL {s : Ps} (h : V s) (l : List Nat) (hn : ∀ n ∈ l, n < 256) : V (feedL s l).1 ∧ ∀ t ∈ (feedL s l).2, t.kd ≠ 0 ∧ okT t := V_fold l (s, []) h (fun t ht => by cases ht) hn
/-- What is known of every token. -/
structure TokG (t : Tok) : Prop where
  chk : checkP t.kd t.cd t.mr t.ps t.it t.dt = 0
  cd : t.cd < 256
  it : t.it.size ≤ 3
  ps : t.ps.length ≤ 30
  dt : t.dt.length ≤ 4096
theorem tokG_of {t : Tok} (hk : t.kd ≠ 0) (h : okT t) : TokG t := by
  rcases h with h | ⟨h1, h2⟩
  · exact absurd h hk
  · have h3 : smallB t.ps t.it t.dt = true := by
      unfold checkP at h2
      cases hs : smallB t.ps t.it t.dt with
      | true => rfl
      | false => rw [hs] at h2; simp only [if_true] at h2; split at h2 <;> cases h2
    unfold smallB at h3
    simp only [Bool.and_eq_true, decide_eq_true_eq] at h3
    exact ⟨h2, h1, h3.1, h3.2.1, h3.2.2.1⟩
end Go.Proofs.YtigaaidacndeiaaDoor

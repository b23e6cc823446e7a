/-
  Every token that is said can be: what is known of a parser at each place.
-/
import Derived.Test.YtdmiihmaijbkfaaPrsS
import Derived.Test.YtdmiihmaijbkfaaTokG
namespace Go.Proofs.Ytdmiihmaijbkfaa
open Go Go.RowKit

def okT (t : Tok) : Prop := t.kd = 0 ∨ (t.cd < 256 ∧ checkP t.kd t.cd t.mr t.ps t.it t.dt = 0)
def mrOk (m : Nat) : Prop := m = 0 ∨ (60 ≤ m ∧ m ≤ 63)
def itOk (s : ByteArray) : Prop := s.data.toList.all interB = true
def dtOk (l : List Nat) : Prop := ∀ n ∈ l, noDataB n = false
structure Ev (s : Ps) : Prop where
  kd : s.kd = 3
  cd : s.cd = 0
  mr : s.mr = 0
  fs : s.fs = []
  ds : s.ds = []
  it : itOk s.it
structure Cv (s : Ps) : Prop where
  kd : s.kd = 4 ∨ s.kd = 5
  mr : mrOk s.mr
  it : itOk s.it
  ds : s.ds = []
structure Dv (s : Ps) : Prop where
  kd : s.kd = 5
  cd : 64 ≤ s.cd ∧ s.cd ≤ 126
  mr : mrOk s.mr
  it : itOk s.it
structure Ov (s : Ps) : Prop where
  kd : 6 ≤ s.kd ∧ s.kd ≤ 9
  cd : s.cd = 0
  mr : s.mr = 0
  fs : s.fs = []
  it : s.it = ⟨#[]⟩
def VV (s : Ps) : Prop := s.pl = 0 ∨ (s.pl = 1 ∧ Ev s ∧ s.it = ⟨#[]⟩) ∨ (s.pl = 2 ∧ Ev s ∧ 0 < s.it.size) ∨ ((s.pl = 3 ∨ s.pl = 4 ∨ s.pl = 5) ∧ Cv s) ∨ ((s.pl = 6 ∨ s.pl = 7) ∧ (Dv s ∨ Ov s) ∧ dtOk s.ds)
/-- What is known of a parser. -/
structure V (s : Ps) : Prop where
  ok : s.ok
  at_ : VV s
def VT (r : Ps × Tok) : Prop := V r.1 ∧ okT r.2
theorem okT0 : okT tok0 := .inl rfl
theorem itOk0 : itOk ⟨#[]⟩ := rfl
theorem V0 : V ps0 := ⟨ps0_ok, .inl rfl⟩
theorem Vb : V begP := ⟨ps0_ok.to rfl rfl rfl, .inr (.inl ⟨rfl, ⟨rfl, rfl, rfl, rfl, rfl, itOk0⟩, rfl⟩)⟩
theorem out_none {fs : List Int} (h : InF fs) : (fs.take 30).any outB = false := by
  rw [List.any_eq_false]
  intro n hn
  have := h n (List.mem_of_mem_take hn)
  simp [outB, clipP]; omega
theorem small_ok {s : Ps} (h : s.ok) : smallB (s.fs.take 30) s.it s.ds = true := by
  unfold smallB
  rw [out_none h.fs]
  have h1 := h.it; have h2 := h.ds
  simp; omega
theorem bstr0 : bstr [] = ⟨#[]⟩ := rfl
theorem check_of {k : Int} {c m : Nat} {ps : List Int} {s : ByteArray} {dt : List Nat} (hk : 1 ≤ k ∧ k ≤ 9) (h1 : smallB ps s dt = true) (h2 : pureB k c m ps s dt = true) (h3 : codedB k c s = true) (h4 : writtenB m s dt = true) : checkP k c m ps s dt = 0 := by
  unfold checkP
  rw [if_neg (by omega), h1, h2, h3, h4]
  rfl
theorem small0 : smallB [] ⟨#[]⟩ [] = true := rfl
theorem pure1 (c : Nat) : pureB 1 c 0 [] ⟨#[]⟩ [] = true := by unfold pureB; rw [if_pos (.inl rfl)]; decide +kernel
theorem pure2 (c : Nat) : pureB 2 c 0 [] ⟨#[]⟩ [] = true := by unfold pureB; rw [if_pos (.inr rfl)]; decide +kernel
theorem pure3 (c : Nat) (s : ByteArray) : pureB 3 c 0 [] s [] = true := by unfold pureB; rw [if_neg (by decide), if_pos rfl]; decide +kernel
theorem pure4 (c m : Nat) (ps : List Int) (s : ByteArray) : pureB 4 c m ps s [] = true := by unfold pureB; rw [if_neg (by decide), if_neg (by decide), if_pos rfl]; decide +kernel
theorem wr0 : writtenB 0 ⟨#[]⟩ [] = true := by decide +kernel
theorem okT_ctl (c : Nat) (h : 1 ≤ c ∧ c < 32) (h24 : c ≠ 24) (h27 : c ≠ 27) : okT (ctlT c) := by
  refine .inr ⟨by show c < 256; omega, check_of (k := 2) ⟨by decide, by decide⟩ small0 (pure2 c) ?_ wr0⟩
  show codedB 2 c _ = true
  unfold codedB amongB
  rw [if_neg (by decide), if_pos rfl]
  simp; omega
theorem okT_prt (c : Nat) (h : 32 ≤ c ∧ c ≤ 255) (h127 : c ≠ 127) (hh : ¬ (128 ≤ c ∧ c ≤ 159)) : okT (prtT c) := by
  refine .inr ⟨by show c < 256; omega, check_of (k := 1) ⟨by decide, by decide⟩ small0 (pure1 c) ?_ wr0⟩
  show codedB 1 c _ = true
  unfold codedB amongB
  rw [if_pos rfl]
  simp; omega
theorem w_ok {m : Nat} {s : ByteArray} {dt : List Nat} (hm : mrOk m) (hi : itOk s) (hd : dtOk dt) : writtenB m s dt = true := by
  unfold writtenB amongB
  have h1 : dt.any noDataB = false := by rw [List.any_eq_false]; intro n hn; rw [hd n hn]; simp
  rw [h1, show s.data.toList.all interB = true from hi]
  rcases hm with h | h
  · simp [h]
  · simp; omega
theorem dt0 : dtOk [] := fun n hn => by cases hn
theorem okT_esc {s : Ps} (ho : s.ok) (h : Ev s) (c : Nat) (hc : 48 ≤ c ∧ c ≤ 126) (hl : s.it.size ≠ 0 ∨ leadsB c = false) : okT (endT {s with cd := c}) := by
  unfold endT
  cases hv : s.vo with
  | true => exact okT0
  | false =>
    refine .inr ⟨by show c < 256; omega, ?_⟩
    show checkP s.kd c s.mr (s.fs.take 30) s.it s.ds = 0
    have h1 := small_ok ho
    rw [h.fs, h.ds] at h1 ⊢
    rw [h.kd, h.mr]
    refine check_of ⟨by decide, by decide⟩ h1 (pure3 c _) ?_ (w_ok (.inl rfl) h.it dt0)
    unfold codedB amongB
    rw [if_neg (by decide), if_neg (by decide), if_pos rfl]
    rcases hl with hl | hl
    · simp [hl]; omega
    · simp [hl]; omega
theorem okT_csi {s : Ps} (ho : s.ok) (h : Cv s) (hk : s.kd = 4) (c : Nat) (hc : 64 ≤ c ∧ c ≤ 126) : okT (endT {s with cd := c}) := by
  unfold endT
  cases hv : s.vo with
  | true => exact okT0
  | false =>
    refine .inr ⟨by show c < 256; omega, ?_⟩
    show checkP s.kd c s.mr (s.fs.take 30) s.it s.ds = 0
    have h1 := small_ok ho
    rw [h.ds] at h1 ⊢
    rw [hk]
    refine check_of ⟨by decide, by decide⟩ h1 (pure4 _ _ _ _) ?_ (w_ok h.mr h.it dt0)
    unfold codedB amongB
    rw [if_neg (by decide), if_neg (by decide), if_neg (by decide), if_pos (by decide)]
    simp; omega
theorem okT_dcs {s : Ps} (ho : s.ok) (h : Dv s) (hd : dtOk s.ds) : okT (endT s) := by
  unfold endT
  cases hv : s.vo with
  | true => exact okT0
  | false =>
    refine .inr ⟨by have := h.cd; show s.cd < 256; omega, ?_⟩
    show checkP s.kd s.cd s.mr (s.fs.take 30) s.it s.ds = 0
    rw [h.kd]
    refine check_of ⟨by decide, by decide⟩ (small_ok ho) rfl ?_ (w_ok h.mr h.it hd)
    unfold codedB amongB
    rw [if_neg (by decide), if_neg (by decide), if_neg (by decide), if_pos (by decide)]
    have := h.cd
    simp; omega
theorem okT_osc {s : Ps} (ho : s.ok) (h : Ov s) (hd : dtOk s.ds) : okT (endT s) := by
  unfold endT
  cases hv : s.vo with
  | true => exact okT0
  | false =>
    refine .inr ⟨by have := h.cd; show s.cd < 256; omega, ?_⟩
    show checkP s.kd s.cd s.mr (s.fs.take 30) s.it s.ds = 0
    have hk := h.kd
    refine check_of ⟨by omega, by omega⟩ (small_ok ho) ?_ ?_ (w_ok (.inl h.mr) (by rw [h.it]; exact itOk0) hd)
    · rw [h.cd, h.mr, h.fs, h.it]
      unfold pureB
      rw [if_neg (by omega), if_neg (by omega), if_neg (by omega), if_neg (by omega)]
      simp [sameQ]
    · unfold codedB
      rw [if_neg (by omega), if_neg (by omega), if_neg (by omega), if_neg (by omega)]
end Go.Proofs.Ytdmiihmaijbkfaa

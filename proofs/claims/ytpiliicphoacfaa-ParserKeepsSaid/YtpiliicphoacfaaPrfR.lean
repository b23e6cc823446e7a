/-
  A plain stream, byte by byte: what a header does.
  A plain stream, byte by byte: what a header's bytes leave; strings.
  A plain stream, byte by byte: the numbers of a header; strings.
  A plain stream, byte by byte, says what the reference says of the whole.
  A stream that is fed says what the reference says of the whole.
  What the laws of the parser share: the reference's Split, by what is fed.
-/
import Derived.Test.YtpiliicphoacfaaPrfL
import Derived.Test.YtpiliicphoacfaaPrsU
import Derived.Test.YtpiliicphoacfaaPrsY
namespace Go.Proofs.Ytpiliicphoacfaa

open Go Go.RowKit

def em (t : Tok) : List Tok := if t.kd = 0 then [] else [t]
/-- A parser over a plain stream. -/
def runQ : Ps → List Nat → Ps × List Tok
  | s, [] => (s, [])
  | s, c :: l => ((runQ (takeP s c).1 l).1, em (takeP s c).2 ++ (runQ (takeP s c).1 l).2)
theorem run_cons (s : Ps) (c : Nat) (l : List Nat) : runQ s (c :: l) = ((runQ (takeP s c).1 l).1, em (takeP s c).2 ++ (runQ (takeP s c).1 l).2) := rfl
theorem run_app (l m : List Nat) : ∀ s, runQ s (l ++ m) = ((runQ (runQ s l).1 m).1, (runQ s l).2 ++ (runQ (runQ s l).1 m).2) := by
  induction l with
  | nil => intro s; simp [runQ]
  | cons c l ih => intro s; rw [List.cons_append, run_cons, ih, run_cons]; simp
theorem run_at (s : Ps) (l : List Nat) (k : Nat) (h : k < l.length) : runQ s (l.drop k) = ((runQ (takeP s l[k]).1 (l.drop (k + 1))).1, em (takeP s l[k]).2 ++ (runQ (takeP s l[k]).1 (l.drop (k + 1))).2) := by
  rw [List.drop_eq_getElem_cons h, run_cons]
theorem em0 : em tok0 = [] := rfl
theorem em_ctl (c : Nat) : em (ctlT c) = [ctlT c] := rfl
theorem take_mid {s : Ps} (hp : s.pl ≠ 0 ∧ s.pl ≠ 6 ∧ s.pl ≠ 7) {c : Nat} (hc : ¬ (c = 24 ∨ c = 26)) : takeP s c = takeWithinP s c := by
  unfold takeP takeP0 takePl
  rw [if_neg (fun h => hp.2.2 h.1), if_neg hc, if_neg hp.1, if_neg hp.2.1]
/-- No token ends with an escape. -/
theorem esc_none (s : Ps) : (takeP s 27).2 = tok0 ∨ s.pl = 6 ∧ (takeP s 27).2 = tok0 := by
  left
  unfold takeP
  split
  · rfl
  · show (takePl s 27).2 = tok0
    unfold takePl
    split
    · rfl
    · split <;> rfl
theorem feedB_run (s : Ps) (c : Nat) : feedB s c = runQ s (plainC c) := by
  have one : ∀ (s : Ps) (c : Nat), ¬ (c = 0 ∨ c = 127) → feedC s c = runQ s [c] := fun s c h => by
    unfold feedC
    rw [if_neg h, run_cons]
    show _ = ((takeP s c).1, em (takeP s c).2 ++ [])
    rw [List.append_nil]
    rfl
  unfold feedB hiP plainC
  by_cases h : 128 ≤ c ∧ c ≤ 159
  · have h0 : em (takeP s 27).2 = [] := by rcases esc_none s with e | ⟨_, e⟩ <;> rw [e] <;> rfl
    have e : runQ s [27, c - 64] = runQ (takeP s 27).1 [c - 64] := by rw [run_cons, h0]; rfl
    rw [if_pos h, if_neg (by omega), if_pos (by omega), e]
    exact one _ _ (by omega)
  · rw [if_neg h]
    by_cases h0 : c = 0 ∨ c = 127
    · rw [if_pos h0]
      unfold feedC
      rw [if_pos h0]
      rfl
    · rw [if_neg h0, if_neg (by omega)]
      exact one s c h0
theorem feedL_run (l : List Nat) : ∀ s, feedL s l = runQ s (plainL l) := by
  induction l with
  | nil => intro s; rfl
  | cons c l ih =>
    intro s
    have h1 : feedL s (c :: l) = ((feedL (feedB s c).1 l).1, (feedB s c).2 ++ (feedL (feedB s c).1 l).2) := by
      have := feedL_fold l (feedB s c).1 (feedB s c).2
      unfold feedL at this ⊢
      rw [List.foldl_cons]
      simpa using this
    rw [h1, ih, feedB_run]
    show _ = runQ s (plainC c ++ plainL l)
    rw [run_app]
theorem plain_bv (l : List Nat) (h : ∀ x ∈ l, x < 256) : ∀ x ∈ plainL l, bv x := fun x hx => by
  unfold plainL at hx
  obtain ⟨c, hc, hx⟩ := List.mem_flatMap.1 hx
  have := h c hc
  unfold plainC at hx
  unfold bv
  split at hx
  · simp at hx
  · split at hx
    · simp at hx; omega
    · simp at hx; omega
/-! Headers. -/
def foldS (s : Ps) (B : List Nat) : Ps := B.foldl (fun s d => (stepP s d).1) s
theorem foldS_snoc (s : Ps) (B : List Nat) (d : Nat) : foldS s (B ++ [d]) = (stepP (foldS s B) d).1 := by simp [foldS]
def inB (last : Nat) (B : List Nat) : Prop := ∀ x ∈ B, 32 ≤ x ∧ x < last
theorem inB_snoc {last : Nat} {B : List Nat} (h : inB last B) {d : Nat} (hd : 32 ≤ d ∧ d < last) : inB last (B ++ [d]) := fun x hx => by
  rcases List.mem_append.1 hx with h1 | h1
  · exact h x h1
  · obtain rfl : x = d := by simpa using h1
    exact hd
/-- What a state that goes through a header must be. -/
structure Thru (last : Nat) (s : Ps) : Prop where
  pl : ∀ B, inB last B → (foldS s B).pl ≠ 0 ∧ (foldS s B).pl ≠ 6 ∧ (foldS s B).pl ≠ 7
  tk : ∀ B, inB last B → ∀ d, 32 ≤ d → d < last → (stepP (foldS s B) d).2 = tok0
structure HdrRun (s : List Nat) (st : Ps) (last k : Nat) (C B : List Nat) (h : Hd) (C' : List Nat) : Prop where
  c : h.C = C ++ C'
  zero : h.en = 0 → inB last h.B ∧ runQ (foldS st B) (s.drop k) = (foldS st h.B, C'.map ctlT)
  two : h.en = 2 → inB last h.B ∧ (∃ hx : h.nx < s.length, brkB s[h.nx] = true) ∧ runQ (foldS st B) (s.drop k) = ((runQ (foldS st h.B) (s.drop h.nx)).1, C'.map ctlT ++ (runQ (foldS st h.B) (s.drop h.nx)).2)
  one : h.en = 1 → ∃ B' d, h.B = B' ++ [d] ∧ inB last B' ∧ last ≤ d ∧ 32 ≤ d ∧ d < 127 ∧ runQ (foldS st B) (s.drop k) = ((runQ (stepP (foldS st B') d).1 (s.drop h.nx)).1, C'.map ctlT ++ (em (stepP (foldS st B') d).2 ++ (runQ (stepP (foldS st B') d).1 (s.drop h.nx)).2))
theorem hdr_run (s : List Nat) (hs : ∀ x ∈ s, bv x) (st : Ps) (last : Nat) (hT : Thru last st) : ∀ (n k : Nat) (C B : List Nat), s.length - k = n → k ≤ s.length → inB last B → ∃ C', HdrRun s st last k C B (hdrL last (s.drop k) k C B) C' := by
  intro n
  induction n with
  | zero =>
    intro k C B hn hk hB
    obtain rfl : k = s.length := by omega
    refine ⟨[], ?_⟩
    rw [List.drop_length]
    show HdrRun s st last s.length C B ⟨C, B, 0, 0⟩ []
    exact ⟨(List.append_nil _).symm, fun _ => ⟨hB, by rw [List.drop_length]; rfl⟩, fun h => absurd (show (0 : Nat) = 2 from h) (by decide), fun h => absurd (show (0 : Nat) = 1 from h) (by decide)⟩
  | succ n ih =>
    intro k C B hn hk hB
    have hlt : k < s.length := by omega
    have hb := hs s[k] (List.getElem_mem hlt)
    have hp := hT.pl B hB
    rw [hdrL_cons last s k hlt C B]
    by_cases h1 : brkB s[k] = true
    · rw [if_pos h1]
      exact ⟨[], (List.append_nil _).symm, fun h => by simp at h, fun _ => ⟨hB, ⟨hlt, h1⟩, rfl⟩, fun h => by simp at h⟩
    have h24 : ¬ (s[k] = 24 ∨ s[k] = 26) := fun h => h1 (by unfold brkB; rcases h with h | h <;> rw [h] <;> rfl)
    have h27 : s[k] ≠ 27 := fun h => h1 (by unfold brkB; rw [h]; rfl)
    have hstep := run_at (foldS st B) s k hlt
    rw [take_mid hp h24] at hstep
    unfold takeWithinP at hstep
    rw [if_neg h27] at hstep
    rw [if_neg h1]
    by_cases h2 : s[k] < 32
    · rw [if_pos h2]
      rw [if_pos h2] at hstep
      dsimp only at hstep
      obtain ⟨C', q⟩ := ih (k + 1) (C ++ [s[k]]) B (by omega) hlt hB
      refine ⟨s[k] :: C', by rw [q.c]; simp, fun h => ?_, fun h => ?_, fun h => ?_⟩
      · refine ⟨(q.zero h).1, ?_⟩
        rw [hstep, (q.zero h).2]; rfl
      · refine ⟨(q.two h).1, (q.two h).2.1, ?_⟩
        rw [hstep, (q.two h).2.2]; rfl
      · obtain ⟨B', d, g1, g2, g3, g4, g5, g6⟩ := q.one h
        refine ⟨B', d, g1, g2, g3, g4, g5, ?_⟩
        rw [hstep, g6]; rfl
    rw [if_neg h2]
    rw [if_neg h2] at hstep
    by_cases h3 : s[k] % 128 = 127
    · have h255 : s[k] = 255 := by unfold bv at hb; omega
      rw [if_pos h3]
      rw [if_pos h255] at hstep
      dsimp only at hstep
      rw [em0, List.nil_append] at hstep
      obtain ⟨C', q⟩ := ih (k + 1) C B (by omega) hlt hB
      refine ⟨C', q.c, fun h => ?_, fun h => ?_, fun h => ?_⟩
      · refine ⟨(q.zero h).1, ?_⟩
        rw [hstep, (q.zero h).2]
      · refine ⟨(q.two h).1, (q.two h).2.1, ?_⟩
        rw [hstep, (q.two h).2.2]
      · obtain ⟨B', d, g1, g2, g3, g4, g5, g6⟩ := q.one h
        refine ⟨B', d, g1, g2, g3, g4, g5, ?_⟩
        rw [hstep, g6]
    have hd := mod_seven hb h2 (fun h => h3 (by rw [h]))
    rw [if_neg h3]
    rw [if_neg (fun h => h3 (by rw [h]))] at hstep
    generalize s[k] % 128 = d at *
    by_cases h4 : last ≤ d
    · rw [if_pos h4]
      refine ⟨[], (List.append_nil _).symm, fun h => by simp at h, fun h => by simp at h, fun _ => ⟨B, d, rfl, hB, h4, hd.1, by omega, ?_⟩⟩
      rw [hstep]; rfl
    · rw [if_neg h4]
      rw [hT.tk B hB d hd.1 (by omega), em0, List.nil_append, ← foldS_snoc] at hstep
      obtain ⟨C', q⟩ := ih (k + 1) C (B ++ [d]) (by omega) hlt (inB_snoc hB ⟨hd.1, by omega⟩)
      refine ⟨C', q.c, fun h => ?_, fun h => ?_, fun h => ?_⟩
      · refine ⟨(q.zero h).1, ?_⟩
        rw [hstep, (q.zero h).2]
      · refine ⟨(q.two h).1, (q.two h).2.1, ?_⟩
        rw [hstep, (q.two h).2.2]
      · obtain ⟨B', d', g1, g2, g3, g4, g5, g6⟩ := q.one h
        refine ⟨B', d', g1, g2, g3, g4, g5, ?_⟩
        rw [hstep, g6]
/-- A byte that breaks, in the midst of what isn't a string. -/
theorem brk_run (s : List Nat) (st : Ps) (hp : st.pl ≠ 0 ∧ st.pl ≠ 6 ∧ st.pl ≠ 7) (k : Nat) (hk : k < s.length) (hb : brkB s[k] = true) : runQ st (s.drop k) = ((runQ ps0 (s.drop (brkNx s[k] k))).1, (brkC s[k] []).map ctlT ++ (runQ ps0 (s.drop (brkNx s[k] k))).2) := by
  have h : s[k] = 24 ∨ s[k] = 26 ∨ s[k] = 27 := by
    unfold brkB at hb
    simp at hb
    omega
  rw [run_at st s k hk]
  rcases h with h | h | h
  · rw [h]
    have e : takeP st 24 = (ps0, tok0) := by unfold takeP; rw [if_neg (fun q => hp.2.2 q.1)]; rfl
    rw [e]; rfl
  · rw [h]
    have e : takeP st 26 = (ps0, ctlT 26) := by unfold takeP; rw [if_neg (fun q => hp.2.2 q.1)]; rfl
    rw [e]; rfl
  · have e : takeP st 27 = (begP, tok0) := by rw [take_mid hp (by decide)]; rfl
    have e2 : takeP ps0 27 = (begP, tok0) := rfl
    have hnx : brkNx s[k] k = k := by rw [h]; rfl
    have hc : brkC s[k] [] = [] := by rw [h]; rfl
    rw [hnx, hc, run_at ps0 s k hk, h, e, e2]
    rfl
end Go.Proofs.Ytpiliicphoacfaa

namespace Go.Proofs.Ytpiliicphoacfaa

open Go Go.RowKit

theorem bstr_nil0 : bstr [] = ⟨#[]⟩ := rfl
theorem bstr_snoc (l : List Nat) (c : Nat) : bstr (l ++ [c]) = bstr l ++ chB c := by
  apply ByteArray.ext
  apply Array.ext'
  rw [ByteArray.data_append, bstr_list, Array.toList_append, bstr_list]
  simp [chB]
/-! Behind an escape. -/
def stE (B : List Nat) : Ps := if B = [] then begP else {begP with pl := 2, it := bstr (B.take 3), vo := decide (3 < B.length)}
theorem stE_step (B : List Nat) (d : Nat) (hd : 32 ≤ d ∧ d ≤ 47) : stepP (stE B) d = (stE (B ++ [d]), tok0) := by
  have hI : pInter d = true := by simp [pInter, hd.1, hd.2]
  have hE : takeEscIntersP (stE B) d = (stE (B ++ [d]), tok0) := by
    unfold takeEscIntersP
    rw [if_pos hI]
    congr 1
    by_cases hB : B = []
    · subst hB
      rfl
    · have e1 : stE B = {begP with pl := 2, it := bstr (B.take 3), vo := decide (3 < B.length)} := if_neg hB
      have e2 : stE (B ++ [d]) = {begP with pl := 2, it := bstr ((B ++ [d]).take 3), vo := decide (3 < (B ++ [d]).length)} := if_neg (by simp)
      have hz : (bstr (B.take 3)).size = min 3 B.length := by rw [bstr_size, List.length_take]
      have hpos : 0 < B.length := List.length_pos_iff.2 hB
      rw [e1, e2]
      unfold takeInterP
      dsimp only
      rw [hz]
      by_cases h3 : 3 ≤ B.length
      · rw [if_pos (by omega), List.take_append_of_le_length h3, decide_eq_true (show 3 < (B ++ [d]).length by simp; omega)]
      · rw [if_neg (by omega), List.take_of_length_le (by omega), List.take_of_length_le (by simp; omega), bstr_snoc, decide_eq_false (show ¬ 3 < B.length by omega), decide_eq_false (show ¬ 3 < (B ++ [d]).length by simp; omega)]
  unfold stepP
  by_cases hB : B = []
  · subst hB
    have : (stE []).pl = 1 := rfl
    rw [if_pos this]
    unfold takeEscapedP
    rw [if_neg (by omega), if_neg (by omega), if_neg (by omega), if_neg (by omega), if_neg (by omega), if_neg (by omega), if_neg (by omega)]
    exact hE
  · have : (stE B).pl = 2 := by unfold stE; rw [if_neg hB]
    rw [if_neg (by rw [this]; decide), if_pos this]
    exact hE
theorem esc_fold (B : List Nat) (hB : inB 48 B) : foldS begP B = stE B := by
  have h : ∀ (l X : List Nat), inB 48 l → foldS (stE X) l = stE (X ++ l) := by
    intro l
    induction l with
    | nil => intro X _; rw [List.append_nil]; rfl
    | cons d l ih =>
      intro X hl
      have hd := hl d (by simp)
      show foldS (stepP (stE X) d).1 l = _
      rw [stE_step X d ⟨hd.1, by omega⟩]
      rw [ih (X ++ [d]) (fun x hx => hl x (by simp [hx]))]
      simp
  have := h B [] hB
  rw [List.nil_append] at this
  exact this
theorem stE_pl (B : List Nat) : (stE B).pl ≠ 0 ∧ (stE B).pl ≠ 6 ∧ (stE B).pl ≠ 7 := by
  unfold stE
  split
  · exact ⟨by decide, by decide, by decide⟩
  · exact ⟨by show (2 : Int) ≠ 0; decide, by show (2 : Int) ≠ 6; decide, by show (2 : Int) ≠ 7; decide⟩
theorem thru_esc : Thru 48 begP := ⟨fun B hB => by rw [esc_fold B hB]; exact stE_pl B, fun B hB d h1 h2 => by rw [esc_fold B hB, stE_step B d ⟨h1, by omega⟩]⟩
/-! A Csi's or a Dcs's header. -/
/-- Behind the first Inter. -/
structure F5 (st s : Ps) (R : List Nat) : Prop where
  pl : s.pl = 5
  kd : s.kd = st.kd
  cd : s.cd = st.cd
  ds : s.ds = st.ds
  mr : s.mr = st.mr
  fs : s.fs = st.fs
  vo : s.vo = (st.vo || !(low48 R && decide (st.it.size + R.length ≤ 3)))
  it : s.vo = false → s.it = st.it ++ bstr R
  sz : s.vo = false → s.it.size = st.it.size + R.length
theorem fold5 (st : Ps) (hp : st.pl = 5) (h3 : st.it.size ≤ 3) : ∀ (n : Nat) (R : List Nat), R.length = n → inB 64 R → F5 st (foldS st R) R := by
  intro n
  induction n with
  | zero =>
    intro R hn _
    obtain rfl : R = [] := List.eq_nil_of_length_eq_zero hn
    refine ⟨hp, rfl, rfl, rfl, rfl, rfl, ?_, fun _ => ?_, fun _ => rfl⟩
    · show st.vo = _
      simp [low48, h3]
    · show st.it = st.it ++ bstr []
      rw [bstr_nil0]
      exact (ByteArray.append_empty).symm
  | succ n ih =>
    intro R hn hR
    obtain ⟨X, d, rfl⟩ : ∃ X d, R = X ++ [d] := ⟨R.dropLast, R.getLast (by intro h; rw [h] at hn; simp at hn), (List.dropLast_concat_getLast _).symm⟩
    have hd := hR d (by simp)
    have q := ih X (by simpa using hn) (fun x hx => hR x (by simp [hx]))
    rw [foldS_snoc]
    generalize foldS st X = s at *
    have hs : stepP s d = takeIntersP s d := by
      unfold stepP
      rw [if_neg (by rw [q.pl]; decide), if_neg (by rw [q.pl]; decide), if_neg (by rw [q.pl]; decide), if_neg (by rw [q.pl]; decide)]
    rw [hs]
    unfold takeIntersP
    rw [if_neg (by simp [pCode]; omega)]
    have hlow : low48 (X ++ [d]) = (low48 X && decide (d < 48)) := low_snoc X d
    by_cases hI : d ≤ 47
    · rw [if_pos (by simp [pInter, hd.1, hI])]
      unfold takeInterP
      by_cases hz : s.it.size = 3
      · rw [if_pos hz]
        refine ⟨rfl, q.kd, q.cd, q.ds, q.mr, q.fs, ?_, fun h => by simp at h, fun h => by simp at h⟩
        show true = _
        rw [hlow]
        rcases hv : s.vo with _ | _
        · have := q.sz hv
          rw [decide_eq_false (show ¬ st.it.size + (X ++ [d]).length ≤ 3 by simp; omega)]
          simp
        · have := q.vo
          rw [hv] at this
          rcases hsv : st.vo with _ | _
          · rw [hsv] at this
            simp only [Bool.false_or] at this ⊢
            rcases hlx : low48 X with _ | _
            · simp
            · rw [hlx] at this
              simp at this
              rw [decide_eq_false (show ¬ st.it.size + (X ++ [d]).length ≤ 3 by simp; omega)]
              simp
          · simp
      · rw [if_neg hz]
        refine ⟨rfl, q.kd, q.cd, q.ds, q.mr, q.fs, ?_, fun h => ?_, fun h => ?_⟩
        · show s.vo = _
          rw [q.vo, hlow, decide_eq_true (show d < 48 by omega), Bool.and_true]
          rcases hv : s.vo with _ | _
          · have hsz := q.sz hv
            have := q.vo
            rw [hv] at this
            rcases hsv : st.vo with _ | _
            · rw [hsv] at this
              simp only [Bool.false_or] at this ⊢
              rcases hlx : low48 X with _ | _
              · rw [hlx] at this; simp at this
              · rw [hlx] at this
                simp at this
                rw [decide_eq_true (show st.it.size + X.length ≤ 3 by omega)]
                have hle : s.it.size ≤ 3 := by omega
                rw [decide_eq_true (show st.it.size + (X ++ [d]).length ≤ 3 by simp; omega)]
            · rw [hsv] at this; simp at this
          · have := q.vo
            rw [hv] at this
            rw [← this]
            rcases hsv : st.vo with _ | _
            · rw [hsv] at this
              simp only [Bool.false_or] at this ⊢
              rcases hlx : low48 X with _ | _
              · simp
              · rw [hlx] at this
                simp at this
                rw [decide_eq_false (show ¬ st.it.size + (X ++ [d]).length ≤ 3 by simp; omega)]
                simp
            · simp
        · show s.it ++ chB d = st.it ++ bstr (X ++ [d])
          rw [q.it h, bstr_snoc, ByteArray.append_assoc]
        · show (s.it ++ chB d).size = _
          rw [ByteArray.size_append, ch_size, q.sz h]
          simp
          omega
    · rw [if_neg (by simp [pInter]; omega)]
      refine ⟨q.pl, q.kd, q.cd, q.ds, q.mr, q.fs, ?_, fun h => by simp at h, fun h => by simp at h⟩
      show true = _
      rw [hlow, decide_eq_false (show ¬ d < 48 by omega)]
      simp
end Go.Proofs.Ytpiliicphoacfaa

namespace Go.Proofs.Ytpiliicphoacfaa

open Go Go.RowKit

def u8l (l : List Nat) : List UInt8 := l.map UInt8.ofNat
/-- Digits and what stands among them. -/
structure FN (st s : Ps) (N : List Nat) : Prop where
  pl : s.pl = 4
  kd : s.kd = st.kd
  cd : s.cd = st.cd
  ds : s.ds = st.ds
  mr : s.mr = st.mr
  it : s.it = st.it
  vo : s.vo = (st.vo || !((u8l N).all okb))
  fs : s.vo = false → s.fs = (u8l N).foldl stepF st.fs
theorem foldN (st : Ps) (hp : st.pl = 4) : ∀ (n : Nat) (N : List Nat), N.length = n → (∀ x ∈ N, 48 ≤ x ∧ x < 64) → FN st (foldS st N) N := by
  intro n
  induction n with
  | zero =>
    intro N hn _
    obtain rfl : N = [] := List.eq_nil_of_length_eq_zero hn
    exact ⟨hp, rfl, rfl, rfl, rfl, rfl, by show st.vo = _; simp [u8l], fun _ => rfl⟩
  | succ n ih =>
    intro N hn hN
    obtain ⟨X, d, rfl⟩ : ∃ X d, N = X ++ [d] := ⟨N.dropLast, N.getLast (by intro h; rw [h] at hn; simp at hn), (List.dropLast_concat_getLast _).symm⟩
    have hd := hN d (by simp)
    have q := ih X (by simpa using hn) (fun x hx => hN x (by simp [hx]))
    rw [foldS_snoc]
    generalize foldS st X = s at *
    have hu : u8l (X ++ [d]) = u8l X ++ [UInt8.ofNat d] := by simp [u8l]
    have hs : stepP s d = takeNumbersP s d := by
      unfold stepP
      rw [if_neg (by rw [q.pl]; decide), if_neg (by rw [q.pl]; decide), if_neg (by rw [q.pl]; decide), if_pos q.pl]
    rw [hs]
    unfold takeNumbersP
    by_cases ho : okb (UInt8.ofNat d) = true
    · rw [if_pos ho]
      refine ⟨q.pl, q.kd, q.cd, q.ds, q.mr, q.it, ?_, fun h => ?_⟩
      · rw [hu]
        show s.vo = _
        rw [q.vo, List.all_append]
        simp [ho]
      · rw [hu]
        show stepF s.fs (UInt8.ofNat d) = _
        rw [q.fs h, List.foldl_append]
        rfl
    · rw [if_neg ho]
      unfold takeIntersP
      rw [if_neg (by simp [pCode]; omega), if_neg (by simp [pInter]; omega)]
      refine ⟨q.pl, q.kd, q.cd, q.ds, q.mr, q.it, ?_, fun h => by simp at h⟩
      rw [hu]
      show true = _
      rw [List.all_append]
      simp [ho]
/-- From the numbers on. -/
structure F4 (st s : Ps) (R : List Nat) : Prop where
  pl : s.pl = 4 ∨ s.pl = 5
  kd : s.kd = st.kd
  cd : s.cd = st.cd
  ds : s.ds = st.ds
  mr : s.mr = st.mr
  vo : s.vo = (st.vo || !((u8l (R.take (cntP R))).all okb && (decide ((R.drop (cntP R)).length ≤ 3) && low48 (R.drop (cntP R)))))
  fs : s.vo = false → s.fs = (u8l (R.take (cntP R))).foldl stepF st.fs
  it : s.vo = false → s.it = bstr (R.drop (cntP R))
theorem foldS_app (s : Ps) (A B : List Nat) : foldS s (A ++ B) = foldS (foldS s A) B := by simp [foldS]
theorem fold4 (st : Ps) (hp : st.pl = 4) (hi : st.it = ⟨#[]⟩) (R : List Nat) (hR : inB 64 R) : F4 st (foldS st R) R := by
  have q := foldN st hp _ (R.take (cntP R)) rfl (fun x hx => by
    obtain ⟨j, hj, rfl⟩ := List.mem_iff_getElem.1 hx
    rw [List.getElem_take]
    have hj' : j < cntP R := by simp at hj; omega
    have hjl : j < R.length := by simp at hj; omega
    exact ⟨cnt_lt R j hjl hj', (hR _ (List.getElem_mem hjl)).2⟩)
  have hfold : foldS st R = foldS (foldS st (R.take (cntP R))) (R.drop (cntP R)) := by
    rw [← foldS_app, List.take_append_drop]
  rw [hfold]
  obtain ⟨N, hN⟩ : ∃ N, R.take (cntP R) = N := ⟨_, rfl⟩
  obtain ⟨rest, hr⟩ : ∃ rest, R.drop (cntP R) = rest := ⟨_, rfl⟩
  rw [hN] at q ⊢
  rw [hr]
  clear hfold
  generalize foldS st N = s at *
  cases rest with
  | nil =>
    refine ⟨.inl q.pl, q.kd, q.cd, q.ds, q.mr, ?_, fun h => by rw [hN]; exact q.fs h, fun _ => ?_⟩
    · rw [hN, hr]
      show s.vo = _
      rw [q.vo]
      simp [low48]
    · rw [hr]
      show s.it = bstr []
      rw [q.it, hi]; rfl
  | cons c rest =>
    have hlt : cntP R < R.length := by
      have h1 : (R.drop (cntP R)).length = rest.length + 1 := by rw [hr]; rfl
      rw [List.length_drop] at h1
      omega
    have hc : R[cntP R] = c := by
      have h1 := List.drop_eq_getElem_cons hlt
      rw [hr] at h1
      injection h1 with h1 _
      exact h1.symm
    have hc48 := cnt_at R hlt
    rw [hc] at hc48
    have hcR : 32 ≤ c := by rw [← hc]; exact (hR _ (List.getElem_mem hlt)).1
    have hno : okb (UInt8.ofNat c) = false := by
      have : ∀ k : Fin 48, 32 ≤ k.val → okb (UInt8.ofNat k.val) = false := by decide +kernel
      exact this ⟨c, hc48⟩ hcR
    have h1 : stepP s c = takeIntersP s c := by
      unfold stepP
      rw [if_neg (by rw [q.pl]; decide), if_neg (by rw [q.pl]; decide), if_neg (by rw [q.pl]; decide), if_pos q.pl]
      unfold takeNumbersP
      rw [if_neg (by rw [hno]; decide)]
    have h2 : stepP {s with pl := 5} c = takeIntersP {s with pl := 5} c := rfl
    have h3 : takeIntersP s c = takeIntersP {s with pl := 5} c := by
      have hC : pCode c = false := by simp [pCode]; omega
      have hI : pInter c = true := by simp [pInter]; omega
      simp only [takeIntersP, hC, hI, Bool.false_eq_true, if_false, if_true]
    have hf : foldS s (c :: rest) = foldS {s with pl := 5} (c :: rest) := by
      show foldS (stepP s c).1 rest = foldS (stepP {s with pl := 5} c).1 rest
      rw [h1, h2, h3]
    rw [hf]
    have hin : inB 64 (c :: rest) := fun x hx => hR x (List.mem_of_mem_drop (by rw [hr]; exact hx))
    have hz : s.it.size = 0 := by rw [q.it, hi]; rfl
    have g := fold5 {s with pl := 5} rfl (by show s.it.size ≤ 3; omega) _ (c :: rest) rfl hin
    have gv := g.vo
    change _ = (s.vo || !(low48 (c :: rest) && decide (s.it.size + (c :: rest).length ≤ 3))) at gv
    rw [hz, Nat.zero_add] at gv
    refine ⟨.inr g.pl, g.kd.trans q.kd, g.cd.trans q.cd, g.ds.trans q.ds, g.mr.trans q.mr, ?_, fun h => ?_, fun h => ?_⟩
    · rw [gv, q.vo, hN, hr]
      rcases st.vo <;> rcases (u8l N).all okb <;> rcases low48 (c :: rest) <;> rcases decide ((c :: rest).length ≤ 3) <;> rfl
    · rw [g.fs, hN]
      refine q.fs ?_
      rw [h] at gv
      rcases hv : s.vo with _ | _
      · rfl
      · rw [hv] at gv
        simp at gv
    · rw [g.it h, hr]
      show s.it ++ _ = _
      rw [q.it, hi]
      exact ByteArray.empty_append
def S2 (kd : Int) : Ps := {begP with kd := kd, pl := 3}
def goodP (B : List Nat) : Bool := (u8l ((markP B).2.take (cntP (markP B).2))).all okb && (decide (((markP B).2.drop (cntP (markP B).2)).length ≤ 3) && low48 ((markP B).2.drop (cntP (markP B).2)))
/-- A whole header. -/
structure F3 (kd : Int) (s : Ps) (B : List Nat) : Prop where
  pl : s.pl = 3 ∨ s.pl = 4 ∨ s.pl = 5
  kd : s.kd = kd
  cd : s.cd = 0
  ds : s.ds = []
  vo : s.vo = !goodP B
  mr : s.vo = false → s.mr = (markP B).1
  fs : s.vo = false → s.fs = fieldsOf (u8l ((markP B).2.take (cntP (markP B).2)))
  it : s.vo = false → s.it = bstr ((markP B).2.drop (cntP (markP B).2))
theorem fold3 (kd : Int) (B : List Nat) (hB : inB 64 B) : F3 kd (foldS (S2 kd) B) B := by
  cases B with
  | nil => exact ⟨.inl rfl, rfl, rfl, rfl, rfl, fun _ => rfl, fun _ => rfl, fun _ => rfl⟩
  | cons c R =>
    have hc := hB c (by simp)
    have h1 : stepP (S2 kd) c = takeFirstP (S2 kd) c := rfl
    by_cases hm : 60 ≤ c ∧ c ≤ 63
    · have hmk : markP (c :: R) = (c, R) := by rw [mark_cons, if_pos hm]
      have h2 : foldS (S2 kd) (c :: R) = foldS {S2 kd with pl := 4, mr := c} R := by
        show foldS (stepP (S2 kd) c).1 R = _
        rw [h1]
        unfold takeFirstP
        rw [if_pos (by simp [pMark, hm.1, hm.2])]
      rw [h2]
      have q := fold4 {S2 kd with pl := 4, mr := c} rfl rfl R (fun x hx => hB x (by simp [hx]))
      have hv := q.vo
      refine ⟨.inr q.pl, q.kd, q.cd, q.ds, ?_, fun _ => ?_, fun h => ?_, fun h => ?_⟩
      · rw [hv]; unfold goodP; rw [hmk]; rfl
      · rw [q.mr, hmk]
      · rw [q.fs h, hmk]; rfl
      · rw [q.it h, hmk]
    · have hmk : markP (c :: R) = (0, c :: R) := by rw [mark_cons, if_neg hm]
      have h2 : foldS (S2 kd) (c :: R) = foldS {S2 kd with pl := 4} (c :: R) := by
        show foldS (stepP (S2 kd) c).1 R = foldS (stepP {S2 kd with pl := 4} c).1 R
        rw [h1]
        unfold takeFirstP
        rw [if_neg (by simp [pMark]; omega)]
        rfl
      rw [h2]
      have q := fold4 {S2 kd with pl := 4} rfl rfl (c :: R) hB
      have hv := q.vo
      refine ⟨.inr q.pl, q.kd, q.cd, q.ds, ?_, fun _ => ?_, fun h => ?_, fun h => ?_⟩
      · rw [hv]; unfold goodP; rw [hmk]; rfl
      · rw [q.mr, hmk]; rfl
      · rw [q.fs h, hmk]; rfl
      · rw [q.it h, hmk]
theorem step_low (s : Ps) (hp : s.pl = 3 ∨ s.pl = 4 ∨ s.pl = 5) (d : Nat) (hd : d < 64) : (stepP s d).2 = tok0 := by
  have hI : ∀ t : Ps, (takeIntersP t d).2 = tok0 := fun t => by
    unfold takeIntersP
    rw [if_neg (by simp [pCode]; omega)]
    split <;> rfl
  have hN : ∀ t : Ps, (takeNumbersP t d).2 = tok0 := fun t => by
    unfold takeNumbersP
    split
    · rfl
    · exact hI t
  unfold stepP
  rcases hp with h | h | h
  · rw [if_neg (by omega), if_neg (by omega), if_pos h]
    unfold takeFirstP
    split
    · rfl
    · exact hN _
  · rw [if_neg (by omega), if_neg (by omega), if_neg (by omega), if_pos h]; exact hN _
  · rw [if_neg (by omega), if_neg (by omega), if_neg (by omega), if_neg (by omega)]; exact hI _
theorem thru_two (kd : Int) : Thru 64 (S2 kd) := ⟨fun B hB => by have := (fold3 kd B hB).pl; omega, fun B hB d _ h2 => step_low _ (fold3 kd B hB).pl d h2⟩
theorem pars_eq (kd : Int) (B : List Nat) (d : Nat) : parsP kd (B ++ [d]) = (⟨kd, d, (markP B).1, (parseV (u8l ((markP B).2.take (cntP (markP B).2)))).1, bstr ((markP B).2.drop (cntP (markP B).2)), []⟩, goodP B) := by
  unfold parsP goodP
  dsimp only
  rw [List.dropLast_concat]
  have hl : (B ++ [d]).getLastD 0 = d := by simp
  rw [hl]
  have hb : ∀ l, (bstr l).data.toList = u8l l := fun l => bstr_list l
  rw [hb]
  generalize u8l ((markP B).2.take (cntP (markP B).2)) = l
  have hp : decide ((parseV l).2 = 0) = l.all okb := by
    unfold parseV
    rcases h : l.all okb with _ | _
    · simp
    · simp
  rw [hp]
end Go.Proofs.Ytpiliicphoacfaa

namespace Go.Proofs.Ytpiliicphoacfaa

open Go Go.RowKit

/-! Strings. -/
def txS (s0 : Ps) (D : List Nat) : Ps := {s0 with pl := 6, ds := D.take 4096, vo := s0.vo || decide (4096 < D.length)}
theorem data_eq {c : Nat} (h : bv c) : pData c = dataB c := by
  unfold bv at h
  unfold pData dataB amongB
  rw [Bool.eq_iff_iff]
  simp
  omega
theorem txS_hold (s0 : Ps) (D : List Nat) (c : Nat) : holdP (txS s0 D) c = txS s0 (D ++ [c]) := by
  unfold holdP txS
  by_cases h : 4096 ≤ D.length
  · have h1 : (D.take 4096).length = 4096 := by simp; omega
    dsimp only
    rw [if_pos h1, List.take_append_of_le_length h, decide_eq_true (show 4096 < (D ++ [c]).length by simp; omega), Bool.or_true]
  · have h1 : (D.take 4096).length ≠ 4096 := by simp; omega
    dsimp only
    rw [if_neg h1, List.take_of_length_le (by omega), List.take_of_length_le (by simp; omega), decide_eq_false (show ¬ 4096 < D.length by omega), decide_eq_false (show ¬ 4096 < (D ++ [c]).length by simp; omega)]
structure StrRun (s : List Nat) (s0 : Ps) (k : Nat) (D : List Nat) (r : St) : Prop where
  how : r.how = 0 ∨ r.how = 1 ∨ r.how = 2
  zero : r.how = 0 → r.nx = -1 ∧ ∃ st : Ps, st.pl ≠ 0 ∧ runQ (txS s0 D) (s.drop k) = (st, [])
  one : r.how = 1 → ∃ m : Nat, r.nx = (m : Int) ∧ runQ (txS s0 D) (s.drop k) = ((runQ ps0 (s.drop m)).1, em (endT (txS s0 r.D)) ++ (runQ ps0 (s.drop m)).2)
  two : r.how = 2 → ∃ m : Nat, r.nx = (m : Int) ∧ runQ (txS s0 D) (s.drop k) = ((runQ ps0 (s.drop m)).1, (brkC r.br []).map ctlT ++ (runQ ps0 (s.drop m)).2)
theorem take_six {s : Ps} (hp : s.pl = 6) {c : Nat} (hc : ¬ (c = 24 ∨ c = 26)) : takeP s c = takeTextP s c := by
  unfold takeP takeP0 takePl
  rw [if_neg (fun h => by have := h.1; omega), if_neg hc, if_neg (by omega), if_pos hp]
theorem str_run (s : List Nat) (hs : ∀ x ∈ s, bv x) (s0 : Ps) : ∀ (n k : Nat) (D : List Nat), s.length - k = n → k ≤ s.length → StrRun s s0 k D (strL (s0.kd == 6) (s.drop k) k D) := by
  intro n
  induction n with
  | zero =>
    intro k D hn hk
    obtain rfl : k = s.length := by omega
    rw [List.drop_length]
    show StrRun s s0 s.length D ⟨D, -1, 0, 0⟩
    exact ⟨.inl rfl, fun _ => ⟨rfl, txS s0 D, by show (6 : Int) ≠ 0; decide, by rw [List.drop_length]; rfl⟩, fun h => absurd (show (0 : Nat) = 1 from h) (by decide), fun h => absurd (show (0 : Nat) = 2 from h) (by decide)⟩
  | succ n ih =>
    intro k D hn hk
    have hlt : k < s.length := by omega
    have hb := hs s[k] (List.getElem_mem hlt)
    have hp : (txS s0 D).pl = 6 := rfl
    have hstep := run_at (txS s0 D) s k hlt
    by_cases h27 : s[k] = 27
    · have e27 : takeP (txS s0 D) 27 = ({txS s0 D with pl := 7}, tok0) := by rw [take_six hp (by decide)]; rfl
      rw [h27, e27] at hstep
      dsimp only at hstep
      rw [em0, List.nil_append] at hstep
      by_cases hend : k + 1 = s.length
      · rw [strL_end _ s k hend h27 D]
        refine ⟨.inl rfl, fun _ => ⟨rfl, {txS s0 D with pl := 7}, by show (7 : Int) ≠ 0; decide, ?_⟩, fun h => absurd (show (0 : Nat) = 1 from h) (by decide), fun h => absurd (show (0 : Nat) = 2 from h) (by decide)⟩
        rw [hstep, List.drop_of_length_le (by omega)]
        rfl
      · have hlt2 : k + 1 < s.length := by omega
        have hb2 := hs s[k + 1] (List.getElem_mem hlt2)
        rw [strL_esc _ s k hlt2 h27 D]
        have hstep2 := run_at ({txS s0 D with pl := 7}) s (k + 1) hlt2
        by_cases h92 : s[k + 1] % 128 = 92
        · rw [if_pos h92]
          have hx : s[k + 1] = 92 ∨ s[k + 1] = 220 := by unfold bv at hb2; omega
          have e : takeP {txS s0 D with pl := 7} s[k + 1] = (ps0, endT (txS s0 D)) := by
            unfold takeP takeTextEscapeP
            rw [if_pos ⟨rfl, by omega⟩, if_pos hx]
            rfl
          rw [e] at hstep2
          refine ⟨.inr (.inl rfl), fun h => absurd (show (1 : Nat) = 0 from h) (by decide), fun _ => ⟨k + 2, rfl, ?_⟩, fun h => absurd (show (1 : Nat) = 2 from h) (by decide)⟩
          rw [hstep, hstep2]
        · rw [if_neg h92]
          have hx : ¬ (s[k + 1] = 92 ∨ s[k + 1] = 220) := by omega
          have e : takeP {txS s0 D with pl := 7} s[k + 1] = takeP begP s[k + 1] := by
            unfold takeP
            rw [if_neg (show ¬ (begP.pl = 7 ∧ _) from fun h => by have h1 : (1 : Int) = 7 := h.1; omega)]
            by_cases hc : s[k + 1] = 24 ∨ s[k + 1] = 26
            · rw [if_neg (fun h => h.2 hc)]
              unfold takeP0
              rw [if_pos hc, if_pos hc]
            · rw [if_pos ⟨rfl, hc⟩]
              unfold takeTextEscapeP
              rw [if_neg hx]
          rw [e] at hstep2
          have h3 := run_at begP s (k + 1) hlt2
          have h4 := run_at ps0 s k hlt
          rw [h27, show takeP ps0 27 = (begP, tok0) from rfl] at h4
          dsimp only at h4
          rw [em0, List.nil_append] at h4
          refine ⟨.inr (.inr rfl), fun h => absurd (show (2 : Nat) = 0 from h) (by decide), fun h => absurd (show (2 : Nat) = 1 from h) (by decide), fun _ => ⟨k, rfl, ?_⟩⟩
          rw [hstep, hstep2, h4, h3]
          rfl
    · rw [strL_cons _ s k hlt h27 D]
      by_cases h7 : s[k] = 7 ∧ (s0.kd == 6) = true
      · rw [if_pos h7]
        have hk6 : (txS s0 D).kd = 6 := by show s0.kd = 6; simpa using h7.2
        have e : takeP (txS s0 D) s[k] = (ps0, endT (txS s0 D)) := by
          rw [take_six hp (by omega)]
          unfold takeTextP
          rw [if_neg h27, if_pos ⟨h7.1, hk6⟩]
        rw [e] at hstep
        exact ⟨.inr (.inl rfl), fun h => absurd (show (1 : Nat) = 0 from h) (by decide), fun _ => ⟨k + 1, rfl, hstep⟩, fun h => absurd (show (1 : Nat) = 2 from h) (by decide)⟩
      rw [if_neg h7]
      by_cases hbk : brkB s[k] = true
      · rw [if_pos hbk]
        have hc : s[k] = 24 ∨ s[k] = 26 := by
          unfold brkB at hbk
          simp at hbk
          omega
        refine ⟨.inr (.inr rfl), fun h => absurd (show (2 : Nat) = 0 from h) (by decide), fun h => absurd (show (2 : Nat) = 1 from h) (by decide), fun _ => ⟨brkNx s[k] k, rfl, ?_⟩⟩
        rw [hstep]
        rcases hc with h | h
        · rw [h]; rfl
        · rw [h]; rfl
      rw [if_neg hbk]
      have hc : ¬ (s[k] = 24 ∨ s[k] = 26) := fun h => hbk (by unfold brkB; rcases h with h | h <;> rw [h] <;> rfl)
      have h7' : ¬ (s[k] = 7 ∧ (txS s0 D).kd = 6) := fun h => h7 ⟨h.1, by have h2 : s0.kd = 6 := h.2; simpa using h2⟩
      have e : takeP (txS s0 D) s[k] = (txS s0 (if dataB s[k] = true then D ++ [s[k]] else D), tok0) := by
        rw [take_six hp hc]
        unfold takeTextP
        rw [if_neg h27, if_neg h7', data_eq hb]
        split
        · rw [txS_hold]
        · rfl
      rw [e] at hstep
      dsimp only at hstep
      rw [em0, List.nil_append] at hstep
      have q := ih (k + 1) (if dataB s[k] = true then D ++ [s[k]] else D) (by omega) hlt
      exact ⟨q.how, fun h => by rw [hstep]; exact q.zero h, fun h => by rw [hstep]; exact q.one h, fun h => by rw [hstep]; exact q.two h⟩
theorem end_tx (s0 : Ps) (hk : s0.kd ≠ 0) (D : List Nat) : em (endT (txS s0 D)) = if (!s0.vo && decide (D.length ≤ 4096)) = true then [⟨s0.kd, s0.cd, s0.mr, s0.fs.take 30, s0.it, D⟩] else [] := by
  unfold endT txS
  dsimp only
  rcases hv : s0.vo with _ | _
  · by_cases h : 4096 < D.length
    · rw [decide_eq_true h, decide_eq_false (by omega)]
      rfl
    · rw [decide_eq_false h, decide_eq_true (by omega), List.take_of_length_le (by omega)]
      exact if_neg hk
  · rfl
/-! Sequences. -/
/-- What was said, and where it goes on. -/
def Res (s : List Nat) (q : Ps × List Tok) (r : List Tok × Int) : Prop := (r.2 < 0 ∧ q.2 = r.1 ∧ q.1.pl ≠ 0) ∨ (∃ m : Nat, r.2 = (m : Int) ∧ q.1 = (runQ ps0 (s.drop m)).1 ∧ q.2 = r.1 ++ (runQ ps0 (s.drop m)).2)
theorem Res.pre {s : List Nat} {q : Ps × List Tok} {r : List Tok × Int} (h : Res s q r) (X : List Tok) : Res s (q.1, X ++ q.2) (X ++ r.1, r.2) := by
  rcases h with ⟨h1, h2, h3⟩ | ⟨m, h1, h2, h3⟩
  · exact .inl ⟨h1, by rw [h2], h3⟩
  · exact .inr ⟨m, h1, h2, by rw [h3, List.append_assoc]⟩
theorem brkC_app (c : Nat) (C : List Nat) : brkC c C = C ++ brkC c [] := by unfold brkC; split <;> simp
/-- A string's answer, of a parser that goes into it. -/
theorem str_res (s : List Nat) (hs : ∀ x ∈ s, bv x) (s0 : Ps) (hk : s0.kd ≠ 0) (hd : s0.ds = []) (hp : s0.pl = 6) (k : Nat) (hks : k ≤ s.length) (t : Tok) (good : Bool) (hg : good = !s0.vo) (ht : good = true → t = ⟨s0.kd, s0.cd, s0.mr, s0.fs.take 30, s0.it, []⟩) (C : List Nat) : Res s ((runQ s0 (s.drop k)).1, C.map ctlT ++ (runQ s0 (s.drop k)).2) (strT t good (strL (s0.kd == 6) (s.drop k) k []) C, (strL (s0.kd == 6) (s.drop k) k []).nx) := by
  have h0 : txS s0 [] = s0 := by
    unfold txS
    simp only [List.take_nil, List.length_nil, Nat.not_lt_zero, decide_false, Bool.or_false]
    rw [← hd, ← hp]
  have q := str_run s hs s0 _ k [] rfl hks
  generalize strL (s0.kd == 6) (s.drop k) k [] = r at *
  rcases q.how with h | h | h
  · obtain ⟨h1, st, h2, h3⟩ := (by have := q.zero h; rw [h0] at this; exact this : r.nx = -1 ∧ ∃ st : Ps, st.pl ≠ 0 ∧ runQ s0 (s.drop k) = (st, []))
    left
    rw [h3]
    refine ⟨by show r.nx < 0; omega, ?_, h2⟩
    show C.map ctlT ++ [] = strT t good r C
    unfold strT
    rw [if_neg (by omega), if_neg (by omega), List.append_nil]
  · obtain ⟨m, h1, h2⟩ := q.one h
    rw [h0] at h2
    right
    refine ⟨m, h1, by rw [h2], ?_⟩
    show _ = strT t good r C ++ _
    rw [h2]
    unfold strT
    rw [if_pos h, List.append_assoc, end_tx s0 hk]
    congr 1
    congr 1
    rw [← hg]
    rcases good with _ | _
    · rfl
    · rw [ht rfl]
  · obtain ⟨m, h1, h2⟩ := q.two h
    rw [h0] at h2
    right
    refine ⟨m, h1, by rw [h2], ?_⟩
    rw [h2]
    dsimp only
    unfold strT
    rw [if_neg (by omega), if_pos h, brkC_app _ C, List.map_append, List.append_assoc]
theorem inB_nil (last : Nat) : inB last [] := fun x hx => by simp at hx
theorem hdr_nlt {st : Ps} {last : Nat} (hT : Thru last st) {B : List Nat} (h : inB last B) : (foldS st B).pl ≠ 0 := (hT.pl B h).1
theorem seqB_res (s : List Nat) (hs : ∀ x ∈ s, bv x) (kd : Nat) (hkd : kd = 4 ∨ kd = 5) (C : List Nat) (nx : Nat) (hn : nx ≤ s.length) : Res s ((runQ (S2 kd) (s.drop nx)).1, C.map ctlT ++ (runQ (S2 kd) (s.drop nx)).2) (seqB s kd C nx) := by
  have hT := thru_two (kd : Int)
  obtain ⟨C', q⟩ := hdr_run s hs (S2 kd) 64 hT _ nx [] [] rfl hn (inB_nil _)
  have hx := hdr_at hn (last := 64) rfl
  unfold seqB
  generalize hdrL 64 (s.drop nx) nx [] [] = g at *
  obtain ⟨gC, gB, gx, ge⟩ := g
  have hgC : gC = C' := by have := q.c; simpa using this
  subst hgC
  dsimp only at hx ⊢
  have hf0 : foldS (S2 (kd : Int)) [] = S2 kd := rfl
  rcases hx with h | ⟨h, h1, h2⟩ | ⟨h, h1, h2, _⟩
  · obtain ⟨g1, g2⟩ := q.zero h
    rw [hf0] at g2
    rw [if_pos h, g2]
    exact .inl ⟨by show (-1 : Int) < 0; decide, by rw [List.map_append], hdr_nlt hT g1⟩
  · obtain ⟨g1, ⟨hxl, hbk⟩, g2⟩ := q.two h
    rw [hf0] at g2
    dsimp only at hxl hbk g2 g1
    rw [if_neg (by omega), if_pos h, g2, getD_at s gx hxl]
    have hb := brk_run s (foldS (S2 kd) gB) (hT.pl gB g1) gx hxl hbk
    right
    refine ⟨brkNx s[gx] gx, rfl, by rw [hb], ?_⟩
    rw [hb]
    dsimp only
    rw [brkC_app _ (C ++ gC), List.map_append, List.map_append, List.append_assoc, List.append_assoc]
  · obtain ⟨B', d, g1, g2, g3, g4, g5, g6⟩ := q.one h
    rw [hf0] at g6
    dsimp only at g1 g6
    rw [if_neg (by omega), if_neg (by omega), g6, g1, pars_eq]
    have f := fold3 (kd : Int) B' g2
    generalize foldS (S2 (kd : Int)) B' = st at *
    have hcode : stepP st d = takeCodeP st d := by
      have hC : pCode d = true := by simp [pCode]; omega
      have hM : pMark d = false := by simp [pMark]; omega
      have hO : okb (UInt8.ofNat d) = false := by
        have : ∀ j : Fin 127, 64 ≤ j.val → okb (UInt8.ofNat j.val) = false := by decide +kernel
        exact this ⟨d, g5⟩ g3
      unfold stepP
      rcases f.pl with h | h | h
      · rw [if_neg (by omega), if_neg (by omega), if_pos h]
        simp only [takeFirstP, takeNumbersP, takeIntersP, hC, hM, hO, Bool.false_eq_true, if_false, if_true]
        unfold takeCodeP
        rfl
      · rw [if_neg (by omega), if_neg (by omega), if_neg (by omega), if_pos h]
        simp only [takeNumbersP, takeIntersP, hC, hO, Bool.false_eq_true, if_false, if_true]
      · rw [if_neg (by omega), if_neg (by omega), if_neg (by omega), if_neg (by omega)]
        simp only [takeIntersP, hC, if_true]
    rw [hcode]
    dsimp only
    have hvo := f.vo
    rw [List.map_append]
    rcases hkd with rfl | rfl
    · rw [if_neg (by decide)]
      have e : takeCodeP st d = (ps0, endT {st with cd := d}) := by
        unfold takeCodeP
        rw [if_neg (by rw [f.kd]; decide)]
      rw [e]
      right
      refine ⟨gx, rfl, rfl, ?_⟩
      dsimp only
      rw [List.append_assoc, List.append_assoc]
      congr 1
      congr 1
      congr 1
      unfold endT
      dsimp only
      rw [hvo]
      rcases hg : goodP B' with _ | _
      · rfl
      · have hv : st.vo = false := by rw [hvo, hg]; rfl
        show em _ = _
        unfold em
        rw [if_neg (by show st.kd ≠ 0; rw [f.kd]; decide)]
        have hpv : (parseV (u8l ((markP B').2.take (cntP (markP B').2)))).1 = st.fs.take 30 := by
          rw [f.fs hv]
          unfold goodP at hg
          rw [Bool.and_eq_true] at hg
          unfold parseV
          rw [if_pos hg.1]
          rfl
        rw [hpv, ← f.mr hv, ← f.it hv, f.ds, f.kd]
        rfl
    · rw [if_pos rfl]
      have e : takeCodeP st d = ({st with cd := d, pl := 6}, tok0) := by
        unfold takeCodeP
        rw [if_pos (by rw [f.kd]; rfl)]
      rw [e]
      dsimp only
      rw [em0, List.nil_append]
      have hkd5 : (((5 : Nat) : Int) == 6) = (({st with cd := d, pl := 6} : Ps).kd == 6) := by show _ = (st.kd == 6); rw [f.kd]
      rw [hkd5]
      have := str_res s hs {st with cd := d, pl := 6} (by show st.kd ≠ 0; rw [f.kd]; decide) f.ds rfl gx h2 ⟨((5 : Nat) : Int), d, (markP B').1, (parseV (u8l ((markP B').2.take (cntP (markP B').2)))).1, bstr ((markP B').2.drop (cntP (markP B').2)), []⟩ (goodP B') (by show _ = !st.vo; rw [hvo]; simp) (fun hg => by
        have hv : st.vo = false := by rw [hvo, hg]; rfl
        have hpv : (parseV (u8l ((markP B').2.take (cntP (markP B').2)))).1 = st.fs.take 30 := by
          rw [f.fs hv]
          unfold goodP at hg
          rw [Bool.and_eq_true] at hg
          unfold parseV
          rw [if_pos hg.1]
          rfl
        rw [hpv, ← f.mr hv, ← f.it hv, ← f.kd]) (C ++ gC)
      rw [List.map_append, List.append_assoc] at this
      exact this
end Go.Proofs.Ytpiliicphoacfaa

namespace Go.Proofs.Ytpiliicphoacfaa

open Go Go.RowKit

theorem seq_res (s : List Nat) (hs : ∀ x ∈ s, bv x) (k : Nat) (hk : k ≤ s.length) : Res s (runQ begP (s.drop k)) (seqP s k) := by
  obtain ⟨C', q⟩ := hdr_run s hs begP 48 thru_esc _ k [] [] rfl hk (inB_nil _)
  have hx := hdr_at hk (last := 48) rfl
  rw [seqP_eq]
  unfold seqA
  generalize hdrL 48 (s.drop k) k [] [] = g at *
  obtain ⟨C, B, nx, en⟩ := g
  have hC : C = C' := by have := q.c; simpa using this
  subst hC
  dsimp only at hx ⊢
  have hf0 : foldS begP [] = begP := rfl
  rcases hx with h | ⟨h, h1, h2⟩ | ⟨h, h1, h2, _⟩
  · obtain ⟨g1, g2⟩ := q.zero h
    rw [hf0] at g2
    rw [if_pos h, g2]
    exact .inl ⟨by show (-1 : Int) < 0; decide, rfl, hdr_nlt thru_esc g1⟩
  · obtain ⟨g1, ⟨hxl, hbk⟩, g2⟩ := q.two h
    rw [hf0] at g2
    dsimp only at hxl hbk g2 g1
    rw [if_neg (by omega), if_pos h, g2, getD_at s nx hxl]
    have hb := brk_run s (foldS begP B) (thru_esc.pl B g1) nx hxl hbk
    right
    refine ⟨brkNx s[nx] nx, rfl, by rw [hb], ?_⟩
    rw [hb]
    dsimp only
    rw [brkC_app _ C, List.map_append, List.append_assoc]
  · obtain ⟨B', d, g1, g2, g3, g4, g5, g6⟩ := q.one h
    rw [hf0, esc_fold B' g2] at g6
    dsimp only at g1 g6
    have hn : B.length - 1 = B'.length := by rw [g1]; simp
    have hd : B.getD (B.length - 1) 0 = d := by rw [hn, g1]; simp [List.getD]
    have htk : B.take (B.length - 1) = B' := by rw [hn, g1]; simp
    rw [if_neg (by omega), if_neg (by omega), hd, htk, hn, g6]
    by_cases hB : B' = []
    · subst hB
      simp only [List.length_nil, Nat.lt_irrefl, false_or, Nat.zero_le, true_and]
      have hst : stepP (stE []) d = takeEscapedP begP d := rfl
      rw [hst]
      by_cases hk0 : begunP d = 0
      · rw [if_pos hk0]
        have hne : d ≠ 91 ∧ d ≠ 80 ∧ d ≠ 93 ∧ d ≠ 88 ∧ d ≠ 94 ∧ d ≠ 95 := by
          unfold begunP at hk0
          refine ⟨fun e => ?_, fun e => ?_, fun e => ?_, fun e => ?_, fun e => ?_, fun e => ?_⟩ <;> (subst e; revert hk0; decide)
        have e : takeEscapedP begP d = if d = 92 then (ps0, tok0) else takeEscIntersP begP d := by
          unfold takeEscapedP
          rw [if_neg hne.1, if_neg hne.2.1, if_neg hne.2.2.1, if_neg hne.2.2.2.1, if_neg hne.2.2.2.2.1, if_neg hne.2.2.2.2.2]
        rw [e]
        right
        refine ⟨nx, rfl, ?_, ?_⟩
        · by_cases h92 : d = 92
          · rw [if_pos h92]
          · rw [if_neg h92]
            have e2 : takeEscIntersP begP d = (ps0, endT {begP with cd := d}) := by
              unfold takeEscIntersP
              rw [if_neg (by simp [pInter]; omega)]
              rfl
            rw [e2]
        · by_cases h92 : d = 92
          · rw [if_pos h92, if_neg (by simpa using h92)]
            dsimp only
            rw [em0, List.append_nil]
            rfl
          · rw [if_neg h92, if_pos h92]
            have e2 : takeEscIntersP begP d = (ps0, endT {begP with cd := d}) := by
              unfold takeEscIntersP
              rw [if_neg (by simp [pInter]; omega)]
              rfl
            rw [e2]
            dsimp only
            rw [List.append_assoc]
            rfl
      · rw [if_neg hk0]
        have hd6 : d = 91 ∨ d = 80 ∨ d = 93 ∨ d = 88 ∨ d = 94 ∨ d = 95 := by
          unfold begunP at hk0
          by_cases q1 : d = 91; · exact .inl q1
          by_cases q2 : d = 80; · exact .inr (.inl q2)
          by_cases q3 : d = 93; · exact .inr (.inr (.inl q3))
          by_cases q4 : d = 88; · exact .inr (.inr (.inr (.inl q4)))
          by_cases q5 : d = 94; · exact .inr (.inr (.inr (.inr (.inl q5))))
          by_cases q6 : d = 95; · exact .inr (.inr (.inr (.inr (.inr q6))))
          rw [if_neg q1, if_neg q2, if_neg q3, if_neg q4, if_neg q5, if_neg q6] at hk0
          exact absurd rfl hk0
        have two : ∀ kd : Nat, (kd = 4 ∨ kd = 5) → begunP d = kd → takeEscapedP begP d = (S2 kd, tok0) → Res s ((runQ (takeEscapedP begP d).1 (s.drop nx)).1, C.map ctlT ++ (em (takeEscapedP begP d).2 ++ (runQ (takeEscapedP begP d).1 (s.drop nx)).2)) (if 5 < begunP d then (strT ⟨(begunP d : Int), 0, 0, [], ⟨#[]⟩, []⟩ true (strL ((begunP d : Int) == 6) (s.drop nx) nx []) C, (strL ((begunP d : Int) == 6) (s.drop nx) nx []).nx) else seqB s (begunP d) C nx) := fun kd hkd e1 e2 => by
          rw [e1, if_neg (by omega), e2]
          dsimp only
          rw [em0, List.nil_append]
          exact seqB_res s hs kd hkd C nx h2
        have six' : ∀ kd : Nat, (6 ≤ kd) → begunP d = kd → takeEscapedP begP d = ({begP with kd := kd, pl := 6}, tok0) → Res s ((runQ (takeEscapedP begP d).1 (s.drop nx)).1, C.map ctlT ++ (em (takeEscapedP begP d).2 ++ (runQ (takeEscapedP begP d).1 (s.drop nx)).2)) (if 5 < begunP d then (strT ⟨(begunP d : Int), 0, 0, [], ⟨#[]⟩, []⟩ true (strL ((begunP d : Int) == 6) (s.drop nx) nx []) C, (strL ((begunP d : Int) == 6) (s.drop nx) nx []).nx) else seqB s (begunP d) C nx) := fun kd hkd e1 e2 => by
          rw [e1, if_pos (by omega), e2]
          dsimp only
          rw [em0, List.nil_append]
          exact str_res s hs {begP with kd := kd, pl := 6} (by show (kd : Int) ≠ 0; omega) rfl rfl nx h2 ⟨(kd : Int), 0, 0, [], ⟨#[]⟩, []⟩ true rfl (fun _ => rfl) C
        rcases hd6 with e | e | e | e | e | e
        · subst e; exact two 4 (.inl rfl) rfl rfl
        · subst e; exact two 5 (.inr rfl) rfl rfl
        · subst e; exact six' 6 (by omega) rfl rfl
        · subst e; exact six' 7 (by omega) rfl rfl
        · subst e; exact six' 8 (by omega) rfl rfl
        · subst e; exact six' 9 (by omega) rfl rfl
    · have hpos : 0 < B'.length := List.length_pos_iff.2 hB
      rw [if_pos (.inl hpos)]
      have e : stepP (stE B') d = (ps0, endT {stE B' with cd := d}) := by
        have h2' : (stE B').pl = 2 := by unfold stE; rw [if_neg hB]
        have h3' : (stE B').kd = 3 := by unfold stE; rw [if_neg hB]; rfl
        unfold stepP
        rw [if_neg (by rw [h2']; decide), if_pos h2']
        unfold takeEscIntersP
        rw [if_neg (by simp [pInter]; omega)]
        unfold takeCodeP
        rw [if_neg (by rw [h3']; decide)]
      rw [e]
      right
      refine ⟨nx, rfl, rfl, ?_⟩
      dsimp only
      rw [List.append_assoc]
      congr 1
      congr 1
      have hE : stE B' = {begP with pl := 2, it := bstr (B'.take 3), vo := decide (3 < B'.length)} := if_neg hB
      rw [hE]
      unfold endT
      dsimp only
      by_cases h3 : 3 < B'.length
      · rw [decide_eq_true h3, if_pos rfl, if_neg (by omega)]
        rfl
      · rw [decide_eq_false h3, if_neg (by decide), if_pos ⟨by omega, .inl hpos⟩, show B'.take 3 = B' from List.take_of_length_le (by omega)]
        rfl
theorem spl_run (s : List Nat) (hs : ∀ x ∈ s, bv x) : ∀ (n i : Nat), s.length - i = n → i ≤ s.length → (runQ ps0 (s.drop i)).2 = (splW s i).1 ∧ ((runQ ps0 (s.drop i)).1.pl == 0) = !(splW s i).2 := by
  intro n
  induction n using Nat.strongRecOn with
  | _ n ih =>
    intro i hn hi
    by_cases hlt : i < s.length
    · have hb := hs s[i] (List.getElem_mem hlt)
      have hstep := run_at ps0 s i hlt
      by_cases h27 : s[i] = 27
      · rw [h27, show takeP ps0 27 = (begP, tok0) from rfl] at hstep
        dsimp only at hstep
        rw [em0, List.nil_append] at hstep
        have hr := seq_res s hs (i + 1) hlt
        have hnx := seq_next s (i + 1) hlt
        rw [splW_esc hlt h27, hstep]
        rcases hr with ⟨h1, h2, h3⟩ | ⟨m, h1, h2, h3⟩
        · rw [if_pos h1]
          exact ⟨h2, by simpa using h3⟩
        · rw [if_neg (by omega)]
          have hm : (seqP s (i + 1)).2.toNat = m := by omega
          have q := ih (s.length - m) (by omega) m rfl (by omega)
          rw [hm]
          exact ⟨by rw [show (runQ begP (s.drop (i + 1))).2 = _ from h3, q.1], by rw [show (runQ begP (s.drop (i + 1))).1 = _ from h2]; exact q.2⟩
      · have e : takeP ps0 s[i] = (ps0, if s[i] = 24 then tok0 else if s[i] < 32 then ctlT s[i] else prtT s[i]) := by
          have h0 : takeP ps0 s[i] = takeOutsideP ps0 s[i] := by
            unfold takeP takeP0
            rw [if_neg (fun h => by have h1 : (0 : Int) = 7 := h.1; omega)]
            split <;> rfl
          rw [h0]
          unfold takeOutsideP
          rw [if_neg h27]
          split
          · rfl
          · split <;> rfl
        rw [e] at hstep
        dsimp only at hstep
        have q := ih (s.length - (i + 1)) (by omega) (i + 1) rfl hlt
        rw [splW_one hlt h27, hstep]
        refine ⟨?_, q.2⟩
        dsimp only
        rw [q.1]
        congr 1
        unfold oneT
        by_cases h24 : s[i] = 24
        · rw [if_pos h24, if_neg (by omega), if_neg (by omega)]; rfl
        · rw [if_neg h24]
          by_cases h32 : s[i] < 32
          · rw [if_pos h32, if_neg (by omega), if_pos h24]; rfl
          · rw [if_neg h32, if_pos (by omega)]; rfl
    · obtain rfl : i = s.length := by omega
      rw [splW_end (Nat.lt_irrefl _), List.drop_length]
      exact ⟨rfl, rfl⟩
/-- What is fed says what the reference says, and something is begun where the reference says so. -/
theorem feed_split (ns : List Nat) (h : ∀ x ∈ ns, x < 256) : (feedL ps0 ns).2 = (splW (plainL ns) 0).1 ∧ ((feedL ps0 ns).1.pl == 0) = !(splW (plainL ns) 0).2 := by
  have := spl_run (plainL ns) (plain_bv ns h) _ 0 rfl (Nat.zero_le _)
  rw [List.drop_zero] at this
  rw [feedL_run]
  exact this
end Go.Proofs.Ytpiliicphoacfaa

namespace Go.Proofs.Ytpiliicphoacfaa

open Go Go.RowKit

theorem OTr.reads {w : World} {base : Nat} {v : Value} {ts : List Tok} (h : OTr w base v ts) : ∃ A c, v = .slice A ts.length c ∧ RTs w A ts := by
  obtain ⟨xs, h1, h2⟩ := h
  obtain ⟨A, c, rfl⟩ := own_formS h1
  exact ⟨A, c, rfl, xs, Reads.of_own h1, RTl.of_own h2⟩
theorem refSplitF_any (A : Option Addr) (cap : Nat) (ns : List Nat) (hn : ∀ x ∈ ns, x < 256) (hl : ns.length ≤ 200000) (w : World) (hr : RByt w A ns) :
    Calls Try.prog 13 #[.slice A ns.length cap] w (fun e w' => (∃ A' c', e = .returned (.tuple #[.slice A' (feedL ps0 ns).2.length c', .bool !((feedL ps0 ns).1.pl == 0)]) ∧ RTs w' A' (feedL ps0 ns).2) ∧ Below w.heap.size w w') := by
  refine (refSplit_any A cap ns hn hl w hr).mono ?_
  rintro e w' ⟨⟨v, rfl, ho⟩, hb⟩
  have hf := feed_split ns hn
  rw [← hf.1] at ho
  obtain ⟨A', c', rfl, hr'⟩ := ho.reads
  exact ⟨⟨A', c', by rw [hf.2, Bool.not_not], hr'⟩, hb⟩
theorem plainL_app (l m : List Nat) : plainL (l ++ m) = plainL l ++ plainL m := by simp [plainL]
/-- What means nothing may be left out. -/
theorem feed_plain {l m : List Nat} (h : plainL l = plainL m) : feedL ps0 l = feedL ps0 m := by rw [feedL_run, feedL_run, h]
end Go.Proofs.Ytpiliicphoacfaa

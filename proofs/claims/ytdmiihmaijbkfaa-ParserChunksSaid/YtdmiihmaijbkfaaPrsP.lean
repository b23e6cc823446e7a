/-
  Lists of tokens of memory of their own; where a parser may stand.
-/
import Derived.Test.YtdmiihmaijbkfaaPrsO
namespace Go.Proofs.Ytdmiihmaijbkfaa
open Go Go.RowKit

/-- A place that there is. -/
def Ps.R (s : Ps) : Prop := 0 ≤ s.pl ∧ s.pl ≤ 7
theorem R0 : ps0.R := ⟨by decide, by decide⟩
theorem Rbeg : begP.R := ⟨by decide, by decide⟩
theorem Ps.R.same {s t : Ps} (h : s.R) (e : t.pl = s.pl) : t.R := by unfold Ps.R; rw [e]; exact h
theorem pl_inter (s : Ps) (c : Nat) : (takeInterP s c).pl = s.pl := by unfold takeInterP; split <;> rfl
theorem pl_hold (s : Ps) (c : Nat) : (holdP s c).pl = s.pl := by unfold holdP; split <;> rfl
theorem R_code (s : Ps) (c : Nat) : (takeCodeP s c).1.R := by
  unfold takeCodeP
  split
  · exact ⟨by show (0 : Int) ≤ 6; decide, by show (6 : Int) ≤ 7; decide⟩
  · exact R0
theorem R_pl (s : Ps) (n : Int) (h : 0 ≤ n ∧ n ≤ 7) : ({s with pl := n} : Ps).R := h
theorem R_inters {s : Ps} (h : s.R) (c : Nat) : (takeIntersP s c).1.R := by
  unfold takeIntersP
  split
  · exact R_code _ _
  · split
    · exact Ps.R.same (R_pl s 5 (by decide)) (pl_inter _ _)
    · exact h
theorem R_numbers {s : Ps} (h : s.R) (c : Nat) : (takeNumbersP s c).1.R := by
  unfold takeNumbersP
  split
  · exact h
  · exact R_inters h c
theorem R_first (s : Ps) (c : Nat) : (takeFirstP s c).1.R := by
  unfold takeFirstP
  split
  · exact ⟨by show (0 : Int) ≤ 4; decide, by show (4 : Int) ≤ 7; decide⟩
  · exact R_numbers (R_pl s 4 (by decide)) c
theorem R_escInters (s : Ps) (c : Nat) : (takeEscIntersP s c).1.R := by
  unfold takeEscIntersP
  split
  · exact Ps.R.same (R_pl s 2 (by decide)) (pl_inter _ _)
  · exact R_code _ _
theorem R_escaped (s : Ps) (c : Nat) : (takeEscapedP s c).1.R := by
  unfold takeEscapedP
  split; exact ⟨by show (0 : Int) ≤ 3; decide, by show (3 : Int) ≤ 7; decide⟩
  split; exact ⟨by show (0 : Int) ≤ 3; decide, by show (3 : Int) ≤ 7; decide⟩
  split; exact ⟨by show (0 : Int) ≤ 6; decide, by show (6 : Int) ≤ 7; decide⟩
  split; exact ⟨by show (0 : Int) ≤ 6; decide, by show (6 : Int) ≤ 7; decide⟩
  split; exact ⟨by show (0 : Int) ≤ 6; decide, by show (6 : Int) ≤ 7; decide⟩
  split; exact ⟨by show (0 : Int) ≤ 6; decide, by show (6 : Int) ≤ 7; decide⟩
  split; exact R0
  exact R_escInters s c
theorem R_outside {s : Ps} (h : s.R) (c : Nat) : (takeOutsideP s c).1.R := by
  unfold takeOutsideP
  split; exact Rbeg
  split; exact h
  split; exact h
  exact h
theorem R_text {s : Ps} (h : s.R) (c : Nat) : (takeTextP s c).1.R := by
  unfold takeTextP
  split; exact ⟨by show (0 : Int) ≤ 7; decide, by show (7 : Int) ≤ 7; decide⟩
  split; exact R0
  split; exact h.same (pl_hold _ _)
  exact h
theorem R_step {s : Ps} (h : s.R) (c : Nat) : (stepP s c).1.R := by
  unfold stepP
  split; exact R_escaped _ _
  split; exact R_escInters _ _
  split; exact R_first _ _
  split; exact R_numbers h _
  exact R_inters h _
theorem R_within {s : Ps} (h : s.R) (c : Nat) : (takeWithinP s c).1.R := by
  unfold takeWithinP
  split; exact Rbeg
  split; exact h
  split; exact h
  exact R_step h _
theorem R_takePl {s : Ps} (h : s.R) (c : Nat) : (takePl s c).1.R := by
  unfold takePl
  split; exact R_outside h _
  split; exact R_text h _
  exact R_within h _
theorem R_take0 {s : Ps} (h : s.R) (c : Nat) : (takeP0 s c).1.R := by
  unfold takeP0
  split; exact R_takePl R0 _
  exact R_takePl h _
theorem R_take {s : Ps} (h : s.R) (c : Nat) : (takeP s c).1.R := by
  unfold takeP
  split
  · unfold takeTextEscapeP
    split; exact R0
    exact R_take0 Rbeg _
  · exact R_take0 h _
/-! Lists of tokens. -/
def OTl (w : World) (base : Nat) : List (Array Value) → List Tok → Prop
  | [], [] => True
  | x :: xs, t :: ts => OTk w base (.agg x) t ∧ OTl w base xs ts
  | _, _ => False
theorem OTl.keep {w w' : World} {base : Nat} {row : Option Nat} (hg : w.grownBy w' row) (hr : ∀ k, row = some k → k < base) : ∀ {xs : List (Array Value)} {ts : List Tok}, OTl w base xs ts → OTl w' base xs ts
  | [], [], _ => trivial
  | _ :: _, _ :: _, h => ⟨h.1.keep hg hr, OTl.keep hg hr h.2⟩
theorem OTl.snoc {w : World} {base : Nat} {x : Array Value} {t : Tok} (hx : OTk w base (.agg x) t) : ∀ {xs : List (Array Value)} {ts : List Tok}, OTl w base xs ts → OTl w base (xs ++ [x]) (ts ++ [t])
  | [], [], _ => ⟨hx, trivial⟩
  | _ :: _, _ :: _, h => ⟨h.1, OTl.snoc hx h.2⟩
theorem OTl.len {w : World} {base : Nat} : ∀ {xs : List (Array Value)} {ts : List Tok}, OTl w base xs ts → xs.length = ts.length
  | [], [], _ => rfl
  | _ :: _, _ :: _, h => by simp [OTl.len h.2]
/-- A list of tokens, it and they of memory of their own. -/
def OTks (w : World) (base : Nat) (v : Value) (ts : List Tok) : Prop := ∃ xs : List (Array Value), w.ownsRow base 30 6 v ts.length (xs.flatMap Array.toList) ∧ OTl w base xs ts
theorem OTks.nil (w : World) (base : Nat) : OTks w base (.slice none 0 0) [] := ⟨[], World.ownsRow_nil _ _ _ _, trivial⟩
theorem OTks.keep {w w' : World} {base : Nat} {v : Value} {ts : List Tok} {row : Option Nat} (h : OTks w base v ts) (hg : w.grownBy w' row) (hr : ∀ k, row = some k → k < base) : OTks w' base v ts := by
  obtain ⟨xs, h1, h2⟩ := h
  refine ⟨xs, World.ownsRow.kept (row := row) h1 hg ?_, h2.keep hg hr⟩
  rcases hk : v.ownBlock with _ | k
  · exact .inl rfl
  · right; intro e; have q1 := (World.ownsRow.lt h1 k hk).1; have q2 := hr k e.symm; omega
/-! What is done with a stream. -/
def hiP (s : Ps) (c : Nat) : Ps × Nat := if 128 ≤ c ∧ c ≤ 159 then ((takeP s 27).1, c - 64) else (s, c)
def feedC (s : Ps) (c : Nat) : Ps × List Tok := if c = 0 ∨ c = 127 then (s, []) else ((takeP s c).1, if (takeP s c).2.kd = 0 then [] else [(takeP s c).2])
def feedB (s : Ps) (c : Nat) : Ps × List Tok := feedC (hiP s c).1 (hiP s c).2
def feedL (s : Ps) (l : List Nat) : Ps × List Tok := l.foldl (fun r c => ((feedB r.1 c).1, r.2 ++ (feedB r.1 c).2)) (s, [])
theorem feedL_snoc (s : Ps) (l : List Nat) (c : Nat) : feedL s (l ++ [c]) = ((feedB (feedL s l).1 c).1, (feedL s l).2 ++ (feedB (feedL s l).1 c).2) := by simp [feedL]
theorem R_hi {s : Ps} (h : s.R) (c : Nat) : (hiP s c).1.R := by
  unfold hiP
  split
  · exact R_take h _
  · exact h
theorem R_feedC {s : Ps} (h : s.R) (c : Nat) : (feedC s c).1.R := by
  unfold feedC
  split
  · exact h
  · exact R_take h _
theorem R_feedB {s : Ps} (h : s.R) (c : Nat) : (feedB s c).1.R := R_feedC (R_hi h c) _
theorem feedB_len (s : Ps) (c : Nat) : (feedB s c).2.length ≤ 1 := by
  unfold feedB feedC
  split
  · exact Nat.zero_le _
  · show (if _ then ([] : List Tok) else _).length ≤ 1
    split
    · exact Nat.zero_le _
    · exact Nat.le_refl _
theorem fold_facts (l : List Nat) : ∀ r : Ps × List Tok, r.1.R → (l.foldl (fun r c => ((feedB r.1 c).1, r.2 ++ (feedB r.1 c).2)) r).1.R ∧ (l.foldl (fun r c => ((feedB r.1 c).1, r.2 ++ (feedB r.1 c).2)) r).2.length ≤ r.2.length + l.length := by
  induction l with
  | nil => intro r h; exact ⟨h, Nat.le_refl _⟩
  | cons c l ih =>
    intro r h
    have h1 := ih ((feedB r.1 c).1, r.2 ++ (feedB r.1 c).2) (R_feedB h c)
    refine ⟨h1.1, Nat.le_trans h1.2 ?_⟩
    have := feedB_len r.1 c
    simp only [List.length_append, List.length_cons]
    omega
theorem feedL_facts (s : Ps) (h : s.R) (l : List Nat) : (feedL s l).1.R ∧ (feedL s l).2.length ≤ l.length := by
  have := fold_facts l (s, []) h
  refine ⟨this.1, ?_⟩
  have h2 := this.2
  simp only [List.length_nil, Nat.zero_add] at h2
  exact h2
end Go.Proofs.Ytdmiihmaijbkfaa

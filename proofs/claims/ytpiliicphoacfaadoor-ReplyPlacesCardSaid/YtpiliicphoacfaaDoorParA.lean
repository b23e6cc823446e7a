/-
  The plain mathematics of texts of numbers: fields between semicolons, each a number that stops growing at 65535.
-/
import Derived.Below
import Derived.KernelRfl
import Derived.Lib.Hide
namespace Go.Proofs.YtpiliicphoacfaaDoor

open Go

/-- May the byte stand in such a text? -/
def okb (b : UInt8) : Bool := b == 59 || (48 ≤ b && b ≤ 57)
/-- A digit's number. -/
def dgt (b : UInt8) : Int := (b.toNat : Int) - 48
def sat1 (n d : Int) : Int := min (n * 10 + d) 65535
/-- The number that digits are. -/
def sat (l : List UInt8) : Int := l.foldl (fun n b => sat1 n (dgt b)) 0
/-- One byte more: what the fields are then. -/
def stepF (fs : List Int) (b : UInt8) : List Int :=
  if b = 59 then (if fs = [] then [0, 0] else fs ++ [0])
  else if fs = [] then [sat1 0 (dgt b)] else fs.dropLast ++ [sat1 (fs.getLastD 0) (dgt b)]
def fieldsOf (l : List UInt8) : List Int := l.foldl stepF []
theorem fieldsOf_snoc (l : List UInt8) (b : UInt8) : fieldsOf (l ++ [b]) = stepF (fieldsOf l) b := by simp [fieldsOf]
theorem stepF_semi_nil : stepF [] 59 = [0, 0] := by decide
theorem stepF_semi {fs : List Int} (h : fs ≠ []) : stepF fs 59 = fs ++ [0] := by simp [stepF, h]
theorem stepF_digit_nil {b : UInt8} (hb : b ≠ 59) : stepF [] b = [sat1 0 (dgt b)] := by simp [stepF, hb]
theorem stepF_digit (fs : List Int) (x : Int) {b : UInt8} (hb : b ≠ 59) : stepF (fs ++ [x]) b = fs ++ [sat1 x (dgt b)] := by simp [stepF, hb]
theorem stepF_ne (fs : List Int) (b : UInt8) : stepF fs b ≠ [] := by
  unfold stepF
  split
  · split <;> simp
  · split <;> simp
theorem fieldsOf_ne {l : List UInt8} (h : l ≠ []) : fieldsOf l ≠ [] := by
  obtain ⟨m, b, rfl⟩ : ∃ m b, l = m ++ [b] := ⟨l.dropLast, l.getLast h, (List.dropLast_concat_getLast h).symm⟩
  rw [fieldsOf_snoc]; exact stepF_ne _ _
theorem okb_digit {b : UInt8} (h : okb b = true) (hb : b ≠ 59) : 48 ≤ b.toNat ∧ b.toNat ≤ 57 := by
  simp [okb, hb, UInt8.le_iff_toNat_le] at h
  omega
/-- What a field may be. -/
def InF (fs : List Int) : Prop := ∀ n ∈ fs, 0 ≤ n ∧ n ≤ 65535
theorem sat1_range {n d : Int} (h0 : 0 ≤ n) (hd : 0 ≤ d) : 0 ≤ sat1 n d ∧ sat1 n d ≤ 65535 := by unfold sat1; omega
theorem stepF_range {fs : List Int} {b : UInt8} (h : InF fs) (hb : okb b = true) : InF (stepF fs b) := by
  by_cases h59 : b = 59
  · subst h59
    by_cases hf : fs = []
    · subst hf; rw [stepF_semi_nil]; intro n hn; simp at hn; omega
    · rw [stepF_semi hf]; intro n hn
      rcases List.mem_append.1 hn with h1 | h1
      · exact h n h1
      · simp at h1; omega
  · have hd := okb_digit hb h59
    have hd0 : 0 ≤ dgt b := by unfold dgt; omega
    by_cases hf : fs = []
    · subst hf; rw [stepF_digit_nil h59]; intro n hn; simp at hn; subst hn; exact sat1_range (by omega) hd0
    · obtain ⟨gs, x, rfl⟩ : ∃ gs x, fs = gs ++ [x] := ⟨fs.dropLast, fs.getLast hf, (List.dropLast_concat_getLast hf).symm⟩
      rw [stepF_digit gs x h59]
      intro n hn
      rcases List.mem_append.1 hn with h1 | h1
      · exact h n (List.mem_append_left _ h1)
      · simp at h1; subst h1; exact sat1_range (h x (by simp)).1 hd0
/-- A text of such bytes alone. -/
def OkB (l : List UInt8) : Prop := ∀ b ∈ l, okb b = true
theorem fieldsOf_range {l : List UInt8} (h : OkB l) : InF (fieldsOf l) := by
  suffices H : ∀ (l : List UInt8) (fs : List Int), InF fs → OkB l → InF (l.foldl stepF fs) from H l [] (fun _ h => by simp at h) h
  intro l
  induction l with
  | nil => intro fs h _; exact h
  | cons b l ih => intro fs h1 h2; exact ih _ (stepF_range h1 (h2 b (by simp))) (fun x hx => h2 x (by simp [hx]))
theorem fieldsOf_len (l : List UInt8) : (fieldsOf l).length ≤ l.length + 1 := by
  suffices H : ∀ (l : List UInt8) (fs : List Int), fs.length ≤ (l.foldl stepF fs).length ∧ (l.foldl stepF fs).length ≤ max fs.length 1 + l.length by
    have := (H l []).2; simp at this; unfold fieldsOf; omega
  intro l
  induction l with
  | nil => intro fs; simp; omega
  | cons b l ih =>
    intro fs
    have := ih (stepF fs b)
    have hs : fs.length ≤ (stepF fs b).length ∧ (stepF fs b).length ≤ max fs.length 1 + 1 := by
      unfold stepF
      by_cases hf : fs = []
      · subst hf; split <;> simp
      · have : 0 < fs.length := List.length_pos_iff.2 hf
        split <;> simp <;> omega
    simp only [List.foldl_cons, List.length_cons]
    omega
/-- The first thirty. -/
def numsOf (l : List UInt8) : List Int := (fieldsOf l).take 30
theorem numsOf_range {l : List UInt8} (h : OkB l) : InF (numsOf l) := fun n hn => fieldsOf_range h n (List.mem_of_mem_take hn)
theorem numsOf_len (l : List UInt8) : (numsOf l).length ≤ 30 := by unfold numsOf; simp; omega
/-- What lies behind the fields that are done: the bytes of the last one. -/
theorem fold_digits (gs : List Int) (x : Int) (p : List UInt8) (h : ∀ b ∈ p, b ≠ 59) : p.foldl stepF (gs ++ [x]) = gs ++ [p.foldl (fun n b => sat1 n (dgt b)) x] := by
  induction p generalizing x with
  | nil => rfl
  | cons b p ih =>
    rw [List.foldl_cons, stepF_digit gs x (h b (by simp)), ih _ (fun c hc => h c (by simp [hc]))]
    rfl
theorem fieldsOf_digits (p : List UInt8) (h : ∀ b ∈ p, b ≠ 59) (hp : p ≠ []) : fieldsOf p = [sat p] := by
  cases p with
  | nil => exact absurd rfl hp
  | cons b p =>
    show p.foldl stepF (stepF [] b) = _
    rw [stepF_digit_nil (h b (by simp))]
    exact fold_digits [] _ p (fun c hc => h c (by simp [hc]))
/-- A text that ends with a semicolon has one field more, which is nought. -/
theorem fieldsOf_semi (l : List UInt8) : fieldsOf (l ++ [59]) = (if l = [] then [0] else fieldsOf l) ++ [0] := by
  rw [fieldsOf_snoc]
  by_cases h : l = []
  · subst h; rfl
  · rw [stepF_semi (fieldsOf_ne h), if_neg h]
theorem fieldsOf_semi_digits (l p : List UInt8) (h : ∀ b ∈ p, b ≠ 59) : fieldsOf (l ++ [59] ++ p) = (if l = [] then [0] else fieldsOf l) ++ [sat p] := by
  have : fieldsOf (l ++ [59] ++ p) = p.foldl stepF (fieldsOf (l ++ [59])) := by simp [fieldsOf]
  rw [this, fieldsOf_semi, fold_digits _ _ _ h]
  rfl
end Go.Proofs.YtpiliicphoacfaaDoor

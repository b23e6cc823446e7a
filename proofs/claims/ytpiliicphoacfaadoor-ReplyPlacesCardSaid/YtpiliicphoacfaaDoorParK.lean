/-
  The walk that writes numbers as a text.
-/
import Derived.Test.YtpiliicphoacfaaDoorParJ
import Derived.Test.YtpiliicphoacfaaDoorParD
import Derived.Test.YtpiliicphoacfaaDoorShelf
import Derived.Lib.SmallJoins
import Derived.Lib.Join
namespace Go.Proofs.YtpiliicphoacfaaDoor

open Go.RowKit Go.Sort

/-- The table of powers of ten is in memory. -/
def Ten (w : World) : Prop := Lib.TabIs Tryd.prog w "internal/strconv.uint64pow10" .u64 Lib.pow10Tab
theorem Ten.next {w w' : World} (h : Ten w) (hb : Below w.heap.size w w') : Ten w' := Go.Joins.tab_stays (by kernel_rfl : Tryd.prog.globalNamed "internal/strconv.uint64pow10" = some 1) h hb (Nat.le_refl _)
theorem below_grow (w : World) (k : Nat) (os : Array Obj) : Below w.heap.size w (grow (w.drewN k) os) :=
  ⟨rfl, rfl, rfl, by simp [grow], fun i hi => by simp only [grow, World.drewN]; rw [Array.getElem?_append_left hi]⟩

/-- A number's digits, and a list of numbers as a text. -/
def digs (n : Int) : List UInt8 := Lib.decDigits (clipP n 0 65535).toNat
def fmtL (ns : List Int) : List UInt8 := Lib.join ((ns.take 30).map digs) [59]
def bytesOf (l : List UInt8) : ByteArray := ⟨l.toArray⟩
theorem clip_range (n : Int) : 0 ≤ clipP n 0 65535 ∧ clipP n 0 65535 ≤ 65535 := by unfold clipP; omega
theorem itoa_digs (n : Int) : Lib.itoa (clipP n 0 65535) = digs n := by
  have := (clip_range n).1
  unfold Lib.itoa digs
  rw [if_neg (by omega)]
theorem dec_len (k : Nat) : ∀ n : Nat, n < 10 ^ (k + 1) → (Lib.decDigits n).length ≤ k + 1 := by
  induction k with
  | zero => intro n hn; rw [Lib.decDigits, dif_pos (by simpa using hn)]; simp
  | succ k ih =>
    intro n hn
    rw [Lib.decDigits]
    split
    · simp
    · have := ih (n / 10) (by rw [Nat.pow_succ] at hn; omega)
      simp; omega
theorem digs_len (n : Int) : (digs n).length ≤ 5 := dec_len 4 _ (by have := clip_range n; omega)
theorem lens_le (xs : List (List UInt8)) (h : ∀ x ∈ xs, x.length ≤ 5) : Lib.lens xs ≤ 5 * xs.length := by
  induction xs with
  | nil => simp [Lib.lens]
  | cons x xs ih =>
    have h1 := h x (by simp)
    have h2 := ih (fun y hy => h y (by simp [hy]))
    simp [Lib.lens] at h2 ⊢
    omega
theorem join_len (xs : List (List UInt8)) (h : ∀ x ∈ xs, x.length ≤ 5) : (Lib.join xs [59]).length ≤ 6 * xs.length := by
  cases xs with
  | nil => simp [Lib.join_nil]
  | cons x r =>
    rw [Lib.join_length]
    have h2 := lens_le (x :: r) h
    simp at h2 ⊢
    omega
/-- A slice of strings of the call's own. -/
def OStr (w : World) (base : Nat) (v : Value) (xs : List ByteArray) : Prop := w.ownsRow base 9 1 v xs.length (xs.map Value.string)
theorem ostr_own {w : World} {base : Nat} {v : Value} {xs : List ByteArray} (h : OStr w base v xs) : w.ownsRow base 9 1 v xs.length (xs.map Value.string) := h
theorem info_string : (Tryd.prog.info? 9).map (fun i => (i.zero, i.size, i.bytes)) = some (some (.string ⟨#[]⟩), 1, 16) := by kernel_rfl
theorem OStr.next {w w' : World} {base : Nat} {v : Value} {l : List ByteArray} (h : OStr w base v l) (hb : Below w.heap.size w w') : OStr w' base v l :=
  World.ownsRow.kept (row := none) h ⟨hb.os, hb.tape, hb.output, hb.size, fun k hk _ => hb.block k hk⟩ (by cases v.ownBlock <;> simp)
theorem OStr.form {w : World} {base : Nat} {v : Value} {l : List ByteArray} (h : OStr w base v l) : ∃ A c, v = .slice A l.length c ∧ l.length ≤ c ∧ (0 < l.length → ∃ g, A = some ⟨g, 0, none⟩ ∧ g < w.heap.size ∧ ∀ (j : Nat) x, l[j]? = some x → w.cell? ⟨g, 0 + j, none⟩ = some (.string x)) := by
  rcases h.2 with ⟨rfl, hn⟩ | ⟨g, cap, cur, rfl, hg, hh, hc, _⟩
  · exact ⟨none, 0, by rw [hn], by omega, fun h0 => absurd h0 (by omega)⟩
  · have hlt := h.lt g rfl
    refine ⟨_, cap, rfl, hc, fun _ => ⟨g, rfl, hlt.2, fun j x hj => ?_⟩⟩
    have hjl : j < l.length := by
      rcases Nat.lt_or_ge j l.length with h' | h'
      · exact h'
      · rw [List.getElem?_eq_none h'] at hj; cases hj
    rw [Nat.zero_add, World.ownsRow.cellAt h j (by omega), List.getElem?_map, hj]
    rfl

theorem join_any (A : Option Addr) (c : Nat) (xs : List ByteArray) (base : Nat) (hl : xs.length ≤ 30) (h5 : ∀ x ∈ xs, x.data.toList.length ≤ 5) (w : World) (h : OStr w base (.slice A xs.length c) xs) :
    Calls Tryd.prog 64 #[.slice A xs.length c, .string ⟨#[59]⟩] w fun e w' => e = .returned (.string (bytesOf (Lib.join (xs.map (·.data.toList)) [59]))) ∧ Below w.heap.size w w' := by
  obtain ⟨A', c', hv, hc, hpos⟩ := h.form
  simp only [Value.slice.injEq, true_and] at hv
  obtain ⟨rfl, rfl⟩ := hv
  rcases Nat.eq_zero_or_pos xs.length with h0 | h0
  · obtain rfl := List.eq_nil_of_length_eq_zero h0
    exact (Tryd.strings_Join_none A c ⟨#[59]⟩ w).mono fun e w' ⟨he, hw⟩ => ⟨he, hw ▸ Below.refl _ _⟩
  · obtain ⟨g, rfl, hg, hcell⟩ := hpos h0
    refine (Tryd.strings_Join g 0 c xs ⟨#[59]⟩ w hcell hg (by omega) hc ?_).mono fun e w' ⟨he, hb⟩ => ⟨he, hb⟩
    have := join_len (xs.map (·.data.toList)) (fun x hx => by obtain ⟨y, hy, rfl⟩ := List.mem_map.1 hx; exact h5 y hy)
    rw [List.length_map] at this
    show (Lib.join _ [59]).length ≤ _
    omega
end Go.Proofs.YtpiliicphoacfaaDoor

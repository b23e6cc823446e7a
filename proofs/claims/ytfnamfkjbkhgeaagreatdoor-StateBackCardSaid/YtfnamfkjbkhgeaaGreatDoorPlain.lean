/-
  The plain mathematics of renditions: bits, numbers, letters, weights. Nothing of the program is imported.
-/
import Derived.Below
import Derived.KernelRfl
import Derived.Laws.BitsAllLaws
namespace Go.Proofs.YtfnamfkjbkhgeaaGreatDoor

open Go

/-- A part's bit, numbers, letter and weight, by its place. -/
def pBit (k : Nat) : Int := [1, 2, 4, 8, 16].getD k 0
def pOn (k : Nat) : Int := [1, 4, 5, 7, 8].getD k 0
def pOff (k : Nat) : Int := [22, 24, 25, 27, 28].getD k 0
def pLet (k : Nat) : Int := [98, 117, 107, 114, 104].getD k 0
def pWt (k : Nat) : Int := [128, 16, 64, 32, 8].getD k 0

/-- Is the k-th part of it? -/
def fb (x : Int) (k : Nat) : Bool := x / pBit k % 2 == 1
/-- The rendition of five parts. -/
def rd (a b c d e : Bool) : Int := (if a then 1 else 0) + (if b then 2 else 0) + (if c then 4 else 0) + (if d then 8 else 0) + (if e then 16 else 0)

theorem all_below {n : Nat} {p : Int → Bool} (h : ((List.range n).all fun j => p (j : Int)) = true) {x : Int} (h0 : 0 ≤ x) (h1 : x < n) : p x = true := by
  obtain ⟨m, rfl⟩ := Int.eq_ofNat_of_zero_le h0
  exact List.all_eq_true.1 h m (List.mem_range.2 (by omega))

theorem hasBit_fb {x : Int} (h0 : 0 ≤ x) (h1 : x ≤ 255) (k : Nat) (hk : k < 5) : (bits .and .u8 x (pBit k) != 0) = fb x k := by
  have h := all_below (n := 256) (p := fun x => (List.range 5).all fun k => (bits .and .u8 x (pBit k) != 0) == fb x k) (by decide +kernel) h0 (by omega)
  have := List.all_eq_true.1 h k (List.mem_range.2 hk)
  simpa using this
theorem mask31 {x : Int} (h0 : 0 ≤ x) (h1 : x ≤ 255) : bits .and .u8 x 31 = x % 32 := by
  have h := all_below (n := 256) (p := fun x => bits .and .u8 x 31 == x % 32) (by decide +kernel) h0 (by omega)
  simpa using h
theorem rd_fb {x : Int} (h0 : 0 ≤ x) (h1 : x ≤ 255) : rd (fb x 0) (fb x 1) (fb x 2) (fb x 3) (fb x 4) = x % 32 := by
  have h := all_below (n := 256) (p := fun x => rd (fb x 0) (fb x 1) (fb x 2) (fb x 3) (fb x 4) == x % 32) (by decide +kernel) h0 (by omega)
  simpa using h
theorem fb_mod {x : Int} (h0 : 0 ≤ x) (h1 : x ≤ 255) (k : Nat) (hk : k < 5) : fb (x % 32) k = fb x k := by
  have h := all_below (n := 256) (p := fun x => (List.range 5).all fun k => fb (x % 32) k == fb x k) (by decide +kernel) h0 (by omega)
  have := List.all_eq_true.1 h k (List.mem_range.2 hk)
  simpa using this
theorem rd_lo (a b c d e : Bool) : 0 ≤ rd a b c d e ∧ rd a b c d e < 32 := by
  cases a <;> cases b <;> cases c <;> cases d <;> cases e <;> decide

/-- One number changes it. -/
def ap1 (y n : Int) : Int :=
  if n = 0 then 0 else
  if n = 1 then bits .or .u8 y 1 else if n = 22 then bits .andNot .u8 y 1 else
  if n = 4 then bits .or .u8 y 2 else if n = 24 then bits .andNot .u8 y 2 else
  if n = 5 then bits .or .u8 y 4 else if n = 25 then bits .andNot .u8 y 4 else
  if n = 7 then bits .or .u8 y 8 else if n = 27 then bits .andNot .u8 y 8 else
  if n = 8 then bits .or .u8 y 16 else if n = 28 then bits .andNot .u8 y 16 else y
def apply (x : Int) (ns : List Int) : Int := if ns = [] then 0 else ns.foldl ap1 (x % 32)

theorem ap1_on (y : Int) (k : Nat) (hk : k < 5) : ap1 y (pOn k) = bits .or .u8 y (pBit k) := by
  match k, hk with
  | 0, _ => rfl
  | 1, _ => rfl
  | 2, _ => rfl
  | 3, _ => rfl
  | 4, _ => rfl
theorem ap1_off (y : Int) (k : Nat) (hk : k < 5) : ap1 y (pOff k) = bits .andNot .u8 y (pBit k) := by
  match k, hk with
  | 0, _ => rfl
  | 1, _ => rfl
  | 2, _ => rfl
  | 3, _ => rfl
  | 4, _ => rfl
theorem ap1_none {y n : Int} (h0 : n ≠ 0) (h : ∀ j, j < 5 → n ≠ pOn j ∧ n ≠ pOff j) : ap1 y n = y := by
  have a0 := h 0 (by omega); have a1 := h 1 (by omega); have a2 := h 2 (by omega); have a3 := h 3 (by omega); have a4 := h 4 (by omega)
  simp [pOn, pOff] at a0 a1 a2 a3 a4
  simp [ap1, h0, a0, a1, a2, a3, a4]
/-- What each of the eleven numbers does to the five parts. -/
theorem ap1_parts {y : Int} (h0 : 0 ≤ y) (h1 : y < 32) :
    (∀ k, k < 5 → 0 ≤ bits .or .u8 y (pBit k) ∧ bits .or .u8 y (pBit k) < 32 ∧ ∀ j, j < 5 → fb (bits .or .u8 y (pBit k)) j = (if j = k then true else fb y j)) ∧
    (∀ k, k < 5 → 0 ≤ bits .andNot .u8 y (pBit k) ∧ bits .andNot .u8 y (pBit k) < 32 ∧ ∀ j, j < 5 → fb (bits .andNot .u8 y (pBit k)) j = (if j = k then false else fb y j)) ∧
    (∀ k, k < 5 → 0 ≤ bits .xor .u8 y (pBit k) ∧ bits .xor .u8 y (pBit k) < 32 ∧ ∀ j, j < 5 → fb (bits .xor .u8 y (pBit k)) j = (if j = k then !fb y j else fb y j)) := by
  have h := all_below (n := 32) (p := fun y => (List.range 5).all fun k => (decide (0 ≤ bits .or .u8 y (pBit k)) && decide (bits .or .u8 y (pBit k) < 32) && (List.range 5).all fun j => fb (bits .or .u8 y (pBit k)) j == (if j = k then true else fb y j)) &&
    (decide (0 ≤ bits .andNot .u8 y (pBit k)) && decide (bits .andNot .u8 y (pBit k) < 32) && (List.range 5).all fun j => fb (bits .andNot .u8 y (pBit k)) j == (if j = k then false else fb y j)) &&
    (decide (0 ≤ bits .xor .u8 y (pBit k)) && decide (bits .xor .u8 y (pBit k) < 32) && (List.range 5).all fun j => fb (bits .xor .u8 y (pBit k)) j == (if j = k then !fb y j else fb y j))) (by decide +kernel) h0 (by omega)
  have H := List.all_eq_true.1 h
  refine ⟨fun k hk => ?_, fun k hk => ?_, fun k hk => ?_⟩ <;>
    (have g := H k (List.mem_range.2 hk)
     simp only [Bool.and_eq_true, decide_eq_true_eq, List.all_eq_true, List.mem_range, beq_iff_eq] at g)
  · exact ⟨g.1.1.1.1, g.1.1.1.2, g.1.1.2⟩
  · exact ⟨g.1.2.1.1, g.1.2.1.2, g.1.2.2⟩
  · exact ⟨g.2.1.1, g.2.1.2, g.2.2⟩
theorem ap1_cases (n : Int) : n = 0 ∨ (∃ k, k < 5 ∧ n = pOn k) ∨ (∃ k, k < 5 ∧ n = pOff k) ∨ (n ≠ 0 ∧ ∀ j, j < 5 → n ≠ pOn j ∧ n ≠ pOff j) := by
  by_cases h0 : n = 0
  · exact .inl h0
  by_cases h1 : ∃ k, k < 5 ∧ n = pOn k
  · exact .inr (.inl h1)
  by_cases h2 : ∃ k, k < 5 ∧ n = pOff k
  · exact .inr (.inr (.inl h2))
  · exact .inr (.inr (.inr ⟨h0, fun j hj => ⟨fun e => h1 ⟨j, hj, e⟩, fun e => h2 ⟨j, hj, e⟩⟩⟩))
theorem ap1_range {y n : Int} (h0 : 0 ≤ y) (h1 : y < 32) : 0 ≤ ap1 y n ∧ ap1 y n < 32 := by
  obtain ⟨ho, ha, _⟩ := ap1_parts h0 h1
  rcases ap1_cases n with rfl | ⟨k, hk, rfl⟩ | ⟨k, hk, rfl⟩ | ⟨h, g⟩
  · exact ⟨Int.le_refl _, by show (0 : Int) < 32; decide⟩
  · rw [ap1_on y k hk]; exact ⟨(ho k hk).1, (ho k hk).2.1⟩
  · rw [ap1_off y k hk]; exact ⟨(ha k hk).1, (ha k hk).2.1⟩
  · rw [ap1_none h g]; exact ⟨h0, h1⟩
theorem fold_range (ns : List Int) : ∀ {y : Int}, 0 ≤ y → y < 32 → 0 ≤ ns.foldl ap1 y ∧ ns.foldl ap1 y < 32 := by
  induction ns with
  | nil => exact fun a b => ⟨a, b⟩
  | cons n ns ih => exact fun a b => ih (ap1_range a b).1 (ap1_range a b).2

/-- What a number turns over. -/
def trn (n : Int) : Int := if n = 0 then 15 else if n = 1 then 1 else if n = 4 then 2 else if n = 5 then 4 else if n = 7 then 8 else if n = 8 then 16 else 0
def fl1 (y n : Int) : Int := bits .xor .u8 y (trn n)
def flip (x : Int) (ns : List Int) : Int := if ns = [] then bits .xor .u8 (x % 32) 15 else ns.foldl fl1 (x % 32)
theorem trn_on (k : Nat) (hk : k < 5) : trn (pOn k) = pBit k := by
  match k, hk with
  | 0, _ => rfl
  | 1, _ => rfl
  | 2, _ => rfl
  | 3, _ => rfl
  | 4, _ => rfl
theorem trn_none {n : Int} (h0 : n ≠ 0) (h : ∀ j, j < 5 → n ≠ pOn j) : trn n = 0 := by
  have a0 := h 0 (by omega); have a1 := h 1 (by omega); have a2 := h 2 (by omega); have a3 := h 3 (by omega); have a4 := h 4 (by omega)
  simp [pOn] at a0 a1 a2 a3 a4
  simp [trn, h0, a0, a1, a2, a3, a4]
theorem trn_range (n : Int) : 0 ≤ trn n ∧ trn n < 32 := by
  unfold trn; repeat' split
  all_goals omega
theorem xor_range {y z : Int} (h0 : 0 ≤ y) (h1 : y < 32) (g0 : 0 ≤ z) (g1 : z < 32) : 0 ≤ bits .xor .u8 y z ∧ bits .xor .u8 y z < 32 := by
  have h := all_below (n := 32) (p := fun y => (List.range 32).all fun z => decide (0 ≤ bits .xor .u8 y (z : Nat)) && decide (bits .xor .u8 y (z : Nat) < 32)) (by decide +kernel) h0 (by omega)
  obtain ⟨m, rfl⟩ := Int.eq_ofNat_of_zero_le g0
  have := List.all_eq_true.1 h m (List.mem_range.2 (by omega))
  simpa using this
theorem fl1_range {y n : Int} (h0 : 0 ≤ y) (h1 : y < 32) : 0 ≤ fl1 y n ∧ fl1 y n < 32 := xor_range h0 h1 (trn_range n).1 (trn_range n).2
theorem flold_range (ns : List Int) : ∀ {y : Int}, 0 ≤ y → y < 32 → 0 ≤ ns.foldl fl1 y ∧ ns.foldl fl1 y < 32 := by
  induction ns with
  | nil => exact fun a b => ⟨a, b⟩
  | cons n ns ih => exact fun a b => ih (fl1_range a b).1 (fl1_range a b).2
theorem trn_mem (n : Int) : trn n ∈ [(0 : Int), 1, 2, 4, 8, 15, 16] := by
  unfold trn; repeat' split
  all_goals decide
theorem xor_comm_at {y a b : Int} (h0 : 0 ≤ y) (h1 : y < 32) (ha : a ∈ [(0 : Int), 1, 2, 4, 8, 15, 16]) (hb : b ∈ [(0 : Int), 1, 2, 4, 8, 15, 16]) :
    bits .xor .u8 (bits .xor .u8 y a) b = bits .xor .u8 (bits .xor .u8 y b) a := by
  have h := all_below (n := 32) (p := fun y => [(0 : Int), 1, 2, 4, 8, 15, 16].all fun a => [(0 : Int), 1, 2, 4, 8, 15, 16].all fun b => bits .xor .u8 (bits .xor .u8 y a) b == bits .xor .u8 (bits .xor .u8 y b) a) (by decide +kernel) h0 (by omega)
  simpa using List.all_eq_true.1 (List.all_eq_true.1 h a ha) b hb
theorem xor_twice {y a : Int} (h0 : 0 ≤ y) (h1 : y < 32) (a0 : 0 ≤ a) (a1 : a < 32) : bits .xor .u8 (bits .xor .u8 y a) a = y := by
  have h := all_below (n := 32) (p := fun y => (List.range 32).all fun a => bits .xor .u8 (bits .xor .u8 y (a : Nat)) (a : Nat) == y) (by decide +kernel) h0 (by omega)
  obtain ⟨m, rfl⟩ := Int.eq_ofNat_of_zero_le a0
  have := List.all_eq_true.1 h m (List.mem_range.2 (by omega))
  simpa using this
theorem fl1_comm_fold (ns : List Int) : ∀ {y n : Int}, 0 ≤ y → y < 32 → ns.foldl fl1 (fl1 y n) = fl1 (ns.foldl fl1 y) n := by
  induction ns with
  | nil => intros; rfl
  | cons m ns ih =>
    intro y n h0 h1
    have e : fl1 (fl1 y n) m = fl1 (fl1 y m) n := xor_comm_at h0 h1 (trn_mem n) (trn_mem m)
    show ns.foldl fl1 (fl1 (fl1 y n) m) = fl1 (ns.foldl fl1 (fl1 y m)) n
    rw [e]
    exact ih (fl1_range h0 h1).1 (fl1_range h0 h1).2
theorem fold_twice (ns : List Int) : ∀ {y : Int}, 0 ≤ y → y < 32 → ns.foldl fl1 (ns.foldl fl1 y) = y := by
  induction ns with
  | nil => intros; rfl
  | cons n ns ih =>
    intro y h0 h1
    have r := fl1_range (n := n) h0 h1
    show ns.foldl fl1 (fl1 (ns.foldl fl1 (fl1 y n)) n) = y
    rw [fl1_comm_fold ns (flold_range ns r.1 r.2).1 (flold_range ns r.1 r.2).2, ih r.1 r.2]
    exact xor_twice h0 h1 (trn_range n).1 (trn_range n).2
theorem flip_range {x : Int} (ns : List Int) : 0 ≤ flip x ns ∧ flip x ns < 32 := by
  have hx : 0 ≤ x % 32 ∧ x % 32 < 32 := by omega
  unfold flip; split
  · exact xor_range hx.1 hx.2 (by omega) (by omega)
  · exact flold_range ns hx.1 hx.2
theorem flip_twice {x : Int} (ns : List Int) : flip (flip x ns) ns = x % 32 := by
  have hx : 0 ≤ x % 32 ∧ x % 32 < 32 := by omega
  have r := flip_range (x := x) ns
  have e : flip x ns % 32 = flip x ns := by omega
  rcases ns with _ | ⟨n, ns⟩
  · show bits .xor .u8 (flip x [] % 32) 15 = _
    rw [e]
    exact xor_twice hx.1 hx.2 (by omega) (by omega)
  · show (n :: ns).foldl fl1 (flip x (n :: ns) % 32) = _
    rw [e]
    exact fold_twice (n :: ns) hx.1 hx.2

/-- The numbers that make it, up to the k-th part. -/
def parK (x : Int) : Nat → List Int
  | 0 => [0]
  | k + 1 => parK x k ++ if fb x k then [pOn k] else []
theorem apply_par {x f : Int} (h0 : 0 ≤ x) (h1 : x ≤ 255) : apply f (parK x 5) = x % 32 := by
  have h := all_below (n := 256) (p := fun x => (parK x 5).foldl ap1 0 == x % 32 && (parK x 5).head? == some 0) (by decide +kernel) h0 (by omega)
  simp only [Bool.and_eq_true, beq_iff_eq] at h
  obtain ⟨n, l, hl⟩ : ∃ n l, parK x 5 = n :: l := by
    cases hh : parK x 5 with
    | nil => simp [hh] at h
    | cons n l => exact ⟨n, l, rfl⟩
  rw [hl] at h ⊢
  obtain rfl : n = 0 := by simpa using h.2
  simp only [apply, reduceCtorEq, if_false, List.foldl_cons] at h ⊢
  exact h.1

/-- Its letters, up to the k-th part. -/
def letK (x : Int) : Nat → List UInt8
  | 0 => []
  | k + 1 => letK x k ++ if fb x k then [UInt8.ofNat (pLet k).toNat] else []
theorem par_let_len {x : Int} : ∀ k, (parK x k).length = (letK x k).length + 1
  | 0 => rfl
  | k + 1 => by
    rw [parK, letK, List.length_append, List.length_append, par_let_len k]
    split <;> simp

/-- Its weight, up to the k-th part. -/
def wtK (x : Int) : Nat → Int
  | 0 => 0
  | k + 1 => wtK x k + if fb x k then pWt k else 0
def wt (x : Int) : Int := wtK x 5
theorem wt_range (x : Int) : 0 ≤ wt x ∧ wt x ≤ 248 := by
  simp only [wt, wtK, pWt]
  repeat' split
  all_goals decide
theorem wtK_range (x : Int) (k : Nat) (hk : k ≤ 5) : 0 ≤ wtK x k ∧ wtK x k ≤ 248 := by
  match k, hk with
  | 0, _ => simp [wtK]
  | 1, _ => simp only [wtK, pWt]; (repeat' split) <;> decide
  | 2, _ => simp only [wtK, pWt]; (repeat' split) <;> decide
  | 3, _ => simp only [wtK, pWt]; (repeat' split) <;> decide
  | 4, _ => simp only [wtK, pWt]; (repeat' split) <;> decide
  | 5, _ => simp only [wtK, pWt]; (repeat' split) <;> decide
theorem wt_eq (x : Int) : wt x = (((((if fb x 0 then 128 else 0) + (if fb x 2 then 64 else 0)) + (if fb x 3 then 32 else 0)) + (if fb x 1 then 16 else 0)) + (if fb x 4 then 8 else 0)) := by
  simp only [wt, wtK, pWt]
  generalize fb x 0 = a; generalize fb x 1 = b; generalize fb x 2 = c; generalize fb x 3 = d; generalize fb x 4 = e
  cases a <;> cases b <;> cases c <;> cases d <;> cases e <;> decide
theorem wt_inj (x y : Int) : wt x = wt y ↔ (fb x 0 = fb y 0 ∧ fb x 1 = fb y 1 ∧ fb x 2 = fb y 2 ∧ fb x 3 = fb y 3 ∧ fb x 4 = fb y 4) := by
  rw [wt_eq, wt_eq]
  generalize fb x 0 = a; generalize fb x 1 = b; generalize fb x 2 = c; generalize fb x 3 = d; generalize fb x 4 = e
  generalize fb y 0 = a'; generalize fb y 1 = b'; generalize fb y 2 = c'; generalize fb y 3 = d'; generalize fb y 4 = e'
  revert a b c d e a' b' c' d' e'
  decide +kernel
end Go.Proofs.YtfnamfkjbkhgeaaGreatDoor

/-
  The plain mathematics of reading runs of bytes back.
-/
import Derived.Test.YtgndjonalhdhkaaDoorPackE
import Derived.Test.YtgndjonalhdhkaaDoorPackF
namespace Go.Proofs.YtgndjonalhdhkaaDoor

open Go.RowKit

/-- The cell that six bytes say. -/
def cell6 (b1 b2 b3 b4 b5 b6 : Int) : Cl := ⟨glyph4 b1 b2 b3 b4, b5, b6 == 1⟩
/-- Bytes as runs, where each run is as long as can be; a is the run ahead. -/
def decR : Rn → List Int → Option (List Rn)
  | _, [] => some []
  | a, b0 :: b1 :: b2 :: b3 :: b4 :: b5 :: b6 :: tl =>
    if b0 = 0 ∨ 1 < b6 then none
    else if takesC a.2 a.1 (cell6 b1 b2 b3 b4 b5 b6) then none
    else (decR (cell6 b1 b2 b3 b4 b5 b6, b0.toNat) tl).map ((cell6 b1 b2 b3 b4 b5 b6, b0.toNat) :: ·)
  | _, _ => none
/-- No run takes the first cell of the next. -/
def Adj : Rn → List Rn → Prop
  | _, [] => True
  | a, x :: rs => takesC a.2 a.1 x.1 = false ∧ Adj x rs
theorem adj_snoc (rs : List Rn) (a x y : Rn) (h : Adj a (rs ++ [x])) (hy : takesC x.2 x.1 y.1 = false) : Adj a (rs ++ [x] ++ [y]) := by
  induction rs generalizing a with
  | nil => exact ⟨h.1, hy, trivial⟩
  | cons z rs ih => exact ⟨h.1, ih z h.2⟩
theorem adj_count (rs : List Rn) (a : Rn) (x : Cl) (n m : Nat) (h : Adj a (rs ++ [(x, n)])) : Adj a (rs ++ [(x, m)]) := by
  induction rs generalizing a with
  | nil => exact ⟨h.1, trivial⟩
  | cons z rs ih => exact ⟨h.1, ih z h.2⟩
theorem addR_adj (a : Rn) (ha : a.2 = 0) (rs : List Rn) (c : Cl) (h : Adj a rs) : Adj a (addR rs c) := by
  by_cases h0 : rs = []
  · subst h0
    exact ⟨by simp [takesC, ha], trivial⟩
  · obtain ⟨pre, ⟨x, n⟩, rfl⟩ := list_end rs h0
    cases ht : takesC n x c
    · rw [addR_no pre x c n ht]
      exact adj_snoc pre a (x, n) (c, 1) h ht
    · rw [addR_yes pre x c n ht]
      exact adj_count pre a x n (n + 1) h
theorem runsL_adj (a : Rn) (ha : a.2 = 0) (l : List Cl) : Adj a (runsL l) := by
  suffices H : ∀ (m : List Cl) (rs : List Rn), Adj a rs → Adj a (m.foldl addR rs) from H l [] trivial
  intro m
  induction m with
  | nil => intro rs h; exact h
  | cons c m ih => intro rs h; exact ih _ (addR_adj a ha rs c h)
theorem glyph_back (g : Int) (h : -2147483648 ≤ g ∧ g ≤ 2147483647) : glyph4 (g % 4294967296 / 16777216) (g % 4294967296 / 65536 % 256) (g % 4294967296 / 256 % 256) (g % 256) = g := by
  have e : g % 4294967296 / 16777216 * 16777216 + g % 4294967296 / 65536 % 256 * 65536 + g % 4294967296 / 256 % 256 * 256 + g % 256 = g % 4294967296 := by omega
  unfold glyph4
  rw [e]
  split <;> omega
theorem cell_back (x : Cl) (h : x.ok) : cell6 (x.g % 4294967296 / 16777216) (x.g % 4294967296 / 65536 % 256) (x.g % 4294967296 / 256 % 256) (x.g % 256) x.r (if x.k then 1 else 0) = x := by
  obtain ⟨g, r, k⟩ := x
  unfold cell6
  rw [glyph_back g h.1]
  cases k <;> rfl
theorem decR_run (a x : Rn) (tl : List Int) (hx : x.1.ok ∧ 1 ≤ x.2 ∧ x.2 ≤ 255) (ht : takesC a.2 a.1 x.1 = false) : decR a (run7 x.1 x.2 ++ tl) = (decR x tl).map (x :: ·) := by
  obtain ⟨c, n⟩ := x
  have hc := cell_back c hx.1
  have h1 : ¬ (((n : Int) = 0) ∨ (1 : Int) < (if c.k then 1 else 0)) := by
    have := hx.2.1
    simp only at this
    cases c.k <;> simp <;> omega
  simp only [run7, List.cons_append, List.nil_append, decR]
  rw [if_neg h1, hc, ht]
  simp
theorem decR_enc (a : Rn) (rs : List Rn) (hok : OkRuns rs) (h : Adj a rs) : decR a (encL rs) = some rs := by
  induction rs generalizing a with
  | nil => rfl
  | cons x rs ih =>
    have e : encL (x :: rs) = run7 x.1 x.2 ++ encL rs := rfl
    rw [e, decR_run a x _ (hok x List.mem_cons_self) h.1, ih x (fun y hy => hok y (List.mem_cons_of_mem _ hy)) h.2]
    rfl
theorem bytes_back (b1 b2 b3 b4 b5 b6 : Int) (n : Nat) (h : OkBs [b1, b2, b3, b4, b5, b6]) (h6 : b6 ≤ 1) : run7 (cell6 b1 b2 b3 b4 b5 b6) n = [(n : Int), b1, b2, b3, b4, b5, b6] := by
  have o1 := h b1 (by simp); have o2 := h b2 (by simp); have o3 := h b3 (by simp); have o4 := h b4 (by simp); have o6 := h b6 (by simp)
  obtain ⟨U, hU⟩ : ∃ U, U = b1 * 16777216 + b2 * 65536 + b3 * 256 + b4 := ⟨_, rfl⟩
  have hg : glyph4 b1 b2 b3 b4 % 4294967296 = U := by unfold glyph4; rw [← hU]; split <;> omega
  have hg2 : glyph4 b1 b2 b3 b4 % 256 = b4 := by
    have : glyph4 b1 b2 b3 b4 % 256 = U % 256 := by rw [← hg]; omega
    rw [this]; omega
  simp only [run7, cell6, hg, hg2]
  have e1 : U / 16777216 = b1 := by omega
  have e2 : U / 65536 % 256 = b2 := by omega
  have e3 : U / 256 % 256 = b3 := by omega
  rw [e1, e2, e3]
  have h01 : b6 = 0 ∨ b6 = 1 := by omega
  rcases h01 with rfl | rfl <;> rfl
theorem cell6_ok (b1 b2 b3 b4 b5 b6 : Int) (h : OkBs [b1, b2, b3, b4, b5, b6]) : (cell6 b1 b2 b3 b4 b5 b6).ok := by
  have o1 := h b1 (by simp); have o2 := h b2 (by simp); have o3 := h b3 (by simp); have o4 := h b4 (by simp); have o5 := h b5 (by simp)
  refine ⟨?_, o5⟩
  show -2147483648 ≤ glyph4 b1 b2 b3 b4 ∧ glyph4 b1 b2 b3 b4 ≤ 2147483647
  unfold glyph4
  split <;> omega
/-- What is read back is written as it was. -/
theorem decR_some (a : Rn) (bs : List Int) (rs : List Rn) (hb : OkBs bs) (h : decR a bs = some rs) : bs = encL rs ∧ Adj a rs ∧ OkRuns rs := by
  fun_induction decR a bs generalizing rs with
  | case1 a =>
    obtain rfl : [] = rs := by simpa using h
    exact ⟨rfl, trivial, fun _ h => by simp at h⟩
  | case2 => simp at h
  | case3 => simp at h
  | case4 a b0 b1 b2 b3 b4 b5 b6 tl hbad ht ih =>
    simp only [Option.map_eq_some_iff] at h
    obtain ⟨rs', h', rfl⟩ := h
    have h6 : OkBs [b1, b2, b3, b4, b5, b6] := fun x hx => hb x (show x ∈ b0 :: ([b1, b2, b3, b4, b5, b6] ++ tl) from List.mem_cons_of_mem _ (List.mem_append_left tl hx))
    obtain ⟨i1, i2, i3⟩ := ih rs' (fun x hx => hb x (by simp [hx])) h'
    have o0 := hb b0 (by simp)
    have hn : ((b0.toNat : Nat) : Int) = b0 := by omega
    refine ⟨?_, ⟨by simpa using ht, i2⟩, fun x hx => ?_⟩
    · have e : encL ((cell6 b1 b2 b3 b4 b5 b6, b0.toNat) :: rs') = run7 (cell6 b1 b2 b3 b4 b5 b6) b0.toNat ++ encL rs' := rfl
      rw [e, bytes_back b1 b2 b3 b4 b5 b6 _ h6 (by omega), hn, ← i1]
      rfl
    · rcases List.mem_cons.1 hx with rfl | hx
      · exact ⟨cell6_ok _ _ _ _ _ _ h6, by show 1 ≤ b0.toNat; omega, by show b0.toNat ≤ 255; omega⟩
      · exact i3 x hx
  | case5 => simp at h
theorem addR_rep (x : Cl) (n : Nat) (hn : n ≤ 255) (rs : List Rn) (k : Nat) (hk : 1 ≤ k) (hkn : k ≤ n) : (List.replicate (n - k) x).foldl addR (rs ++ [(x, k)]) = rs ++ [(x, n)] := by
  obtain ⟨d, rfl⟩ : ∃ d, n = k + d := ⟨n - k, by omega⟩
  rw [Nat.add_sub_cancel_left]
  induction d generalizing k with
  | zero => rfl
  | succ d ih =>
    rw [List.replicate_succ, List.foldl_cons, addR_yes rs x x k ((takesC_iff _ _ _).2 ⟨by omega, by omega, rfl⟩), show k + (d + 1) = (k + 1) + d from by omega]
    exact ih (k + 1) (by omega) (by omega) (by omega)
theorem addR_run (x : Rn) (h : 1 ≤ x.2 ∧ x.2 ≤ 255) (rs : List Rn) (h0 : ∀ pre y, rs = pre ++ [y] → takesC y.2 y.1 x.1 = false) : (List.replicate x.2 x.1).foldl addR rs = rs ++ [x] := by
  obtain ⟨c, n⟩ := x
  obtain ⟨h1, h2⟩ := h
  simp only at h1 h2 h0 ⊢
  have e : List.replicate n c = c :: List.replicate (n - 1) c := by rw [← List.replicate_succ, show n - 1 + 1 = n from by omega]
  have e1 : addR rs c = rs ++ [(c, 1)] := by
    by_cases hr : rs = []
    · subst hr; rfl
    · obtain ⟨pre, ⟨y, m⟩, rfl⟩ := list_end rs hr
      exact addR_no pre y c m (h0 pre (y, m) rfl)
  rw [e, List.foldl_cons, e1]
  exact addR_rep c n h2 rs 1 (Nat.le_refl 1) h1
theorem runs_flat (a : Rn) (rs : List Rn) (hok : OkRuns rs) (h : Adj a rs) : runsL (flatR rs) = rs := by
  suffices H : ∀ (rs pre : List Rn) (a : Rn), OkRuns rs → Adj a rs → (∀ q y, pre = q ++ [y] → y = a) → (flatR rs).foldl addR pre = pre ++ rs by
    exact H rs [] a hok h (fun q y e => by simp at e)
  intro rs
  induction rs with
  | nil => intro pre a _ _ _; simp [flatR]
  | cons x rs ih =>
    intro pre a hok h hp
    have e : flatR (x :: rs) = List.replicate x.2 x.1 ++ flatR rs := rfl
    rw [e, List.foldl_append, addR_run x (hok x List.mem_cons_self).2 pre (fun q y hq => by rw [hp q y hq]; exact h.1),
      ih (pre ++ [x]) x (fun y hy => hok y (List.mem_cons_of_mem _ hy)) h.2 (fun q y hq => by
        have := congrArg List.getLast? hq
        simpa using this.symm)]
    simp
/-- A row that is written is read back. -/
theorem decR_row (a : Rn) (ha : a.2 = 0) (l : List Cl) (h : OkCells l) : ∃ rs, decR a (encL (runsL l)) = some rs ∧ flatR rs = l :=
  ⟨runsL l, decR_enc a _ (runsL_ok l h).1 (runsL_adj a ha l), (runsL_ok l h).2.1⟩
/-- Bytes that are read are written back. -/
theorem decR_bytes (a : Rn) (bs : List Int) (rs : List Rn) (hb : OkBs bs) (h : decR a bs = some rs) : encL (runsL (flatR rs)) = bs ∧ OkCells (flatR rs) := by
  obtain ⟨h1, h2, h3⟩ := decR_some a bs rs hb h
  refine ⟨by rw [runs_flat a rs h3 h2]; exact h1.symm, fun c hc => ?_⟩
  obtain ⟨x, hx, hc⟩ := List.mem_flatMap.1 hc
  obtain rfl := (List.mem_replicate.1 hc).2
  exact (h3 x hx).1
end Go.Proofs.YtgndjonalhdhkaaDoor

/-
  A region that draws its order, walked once in the order of the text: the rule.
-/
import Derived.Test.YtegcebdnofnigaaDoorMix
namespace Go.Proofs.YtegcebdnofnigaaDoor

open Go Go.RowKit

def updL (L : Nat → Bool) (i : Nat) : Nat → Bool := fun j => if j = i then true else L j
theorem updL_here (L : Nat → Bool) (i : Nat) : updL L i i = true := if_pos rfl
theorem updL_far (L : Nat → Bool) {i j : Nat} (h : j ≠ i) : updL L i j = L j := if_neg h
theorem updL_cases {L : Nat → Bool} {i j : Nat} (h : updL L i j = true) : j = i ∨ (j ≠ i ∧ L j = true) := by
  by_cases e : j = i
  · exact .inl e
  · exact .inr ⟨e, by rwa [updL_far L e] at h⟩
theorem dep_of {ops : Array Oper} {j i : Nat} {o : Oper} (ho : ops[j]? = some o) {e : Edge} (he : e ∈ o.after) (hb : Region.binds .any e = true) (hi : e.on = i) : dep ops j i = true := by
  unfold dep
  rw [ho]
  show (o.after.any fun e => Region.binds .any e && e.on == i) = true
  rw [Array.any_eq_true']
  exact ⟨e, he, by rw [hb]; simp [hi]⟩
theorem of_dep {ops : Array Oper} {j i : Nat} {o : Oper} (ho : ops[j]? = some o) (h : dep ops j i = true) : ∃ e ∈ o.after, Region.binds .any e = true ∧ e.on = i := by
  unfold dep at h
  rw [ho] at h
  have h' : (o.after.any fun e => Region.binds .any e && e.on == i) = true := h
  rw [Array.any_eq_true'] at h'
  obtain ⟨e, he, hb⟩ := h'
  rw [Bool.and_eq_true] at hb
  exact ⟨e, he, hb.1, by simpa using hb.2⟩
theorem dep_some {ops : Array Oper} {j i : Nat} (h : dep ops j i = true) : ∃ o, ops[j]? = some o := by
  unfold dep at h
  cases ho : ops[j]? with
  | none => rw [ho] at h; cases h
  | some o => exact ⟨o, rfl⟩

section

variable {P : Program} {ops : Array Oper} {Q : Exit → Act → World → Prop}

theorem wpAny_inv (Inv : (Nat → Bool) → Act → World → Prop)
    (hacy : ∀ i j, dep ops j i = true → i < j)
    (hstep : ∀ i o L a w, ops[i]? = some o → L i = false → (∀ j, dep ops i j = true → L j = true) → (∀ j, dep ops j i = true → L j = false) → Inv L a w → wpOp P ops Q i (Inv (updL L i)) a w)
    (hend : ∀ L a w, (∀ i, i < ops.size → L i = true) → Inv L a w → Q .normal a w) :
    ∀ (fuel : Nat) (listed : Array Bool) (a : Act) (w : World), listed.size = ops.size → listed.toList.count false ≤ fuel → (∀ j i, dep ops j i = true → listed.getD j false = true → listed.getD i false = true) →
      Inv (fun j => listed.getD j false) a w → wpAny P .any ops Q fuel listed a w := by
  have hacy' : ∀ (i : Nat) (o : Oper), ops[i]? = some o → ∀ e ∈ o.after, Region.binds .any e = true → e.on < i := fun i o ho e he hb => hacy e.on i (dep_of ho he hb rfl)
  intro fuel
  induction fuel with
  | zero =>
    intro listed a w hs hc hcl hI
    have hn : Region.ready .any ops listed = [] := by
      apply List.eq_nil_iff_forall_not_mem.2
      intro i hi
      obtain ⟨o, ho, h1, _⟩ := ready_mem hi
      have hli : i < listed.size := by rw [hs]; exact (Array.getElem?_eq_some_iff.1 ho).1
      have h2 : listed.toList[i]? = some false := by
        simp only [Array.getD, hli, dif_pos] at h1
        rw [Array.getElem?_toList, Array.getElem?_eq_getElem hli]
        exact congrArg some h1
      have := count_set _ _ h2
      omega
    exact ⟨hn, hend _ a w (ready_nil hacy' hs hn) hI⟩
  | succ fuel ih =>
    intro listed a w hs hc hcl hI
    refine ⟨fun hn => hend _ a w (ready_nil hacy' hs hn) hI, fun i hi => ?_⟩
    obtain ⟨o, ho, h1, h3⟩ := ready_mem hi
    have hli : i < listed.size := by rw [hs]; exact (Array.getElem?_eq_some_iff.1 ho).1
    have h1' : listed[i] = false := by
      have h := h1
      simp only [Array.getD, hli, dif_pos] at h
      exact h
    have hLi : listed.getD i false = false := by simp [Array.getD, hli, h1']
    have h2 : listed.toList[i]? = some false := by
      rw [Array.getElem?_toList, Array.getElem?_eq_getElem hli, h1']
    have hdep : ∀ j, dep ops i j = true → listed.getD j false = true := fun j hj => by
      obtain ⟨e, he, hb, rfl⟩ := of_dep ho hj
      exact h3 e he hb
    have hneg : ∀ j, dep ops j i = true → listed.getD j false = false := fun j hj => by
      cases hb : listed.getD j false
      · rfl
      · have := hcl j i hj hb
        rw [hLi] at this
        cases this
    have hupd : ∀ j, (listed.setIfInBounds i true).getD j false = updL (fun j => listed.getD j false) i j := by
      intro j
      unfold updL
      by_cases e : j = i
      · subst e
        rw [if_pos rfl]
        simp [Array.getD, hli]
      · rw [if_neg e]
        by_cases hl : j < listed.size
        · simp only [Array.getD, Array.size_setIfInBounds, hl, dif_pos]
          change (listed.setIfInBounds i true)[j]'(by simpa using hl) = listed[j]
          rw [Array.getElem_setIfInBounds, if_neg (Ne.symm e)]
        · simp [Array.getD, hl]
    refine wpOp_mono (fun a' w' hk => ih _ a' w' (by simpa using hs) ?_ ?_ ?_) (hstep i o _ a w ho hLi hdep hneg hI)
    · have := count_set _ _ h2
      rw [Array.toList_setIfInBounds]
      omega
    · intro j k hjk hj
      rw [hupd] at hj ⊢
      rcases updL_cases hj with e | ⟨e, hj'⟩
      · subst e
        have hk := hdep k hjk
        by_cases e : k = j
        · subst e; exact updL_here _ _
        · rw [updL_far _ e]; exact hk
      · have hk := hcl j k hjk hj'
        by_cases e : k = i
        · subst e; exact updL_here _ _
        · rw [updL_far _ e]; exact hk
    · rw [show (fun j => (listed.setIfInBounds i true).getD j false) = updL (fun j => listed.getD j false) i from funext hupd]
      exact hk
end

/-- Of fresh letters: their blocks are below a height, and no two share one. -/
structure FreshP (ks : Kinds) (L : Nat → Bool) (β : Nat → Value) (n : Nat) : Prop where
  lt : ∀ j p F, kindOf ks j = .letterB .fresh p F → L j = true → ∀ b ∈ blksOf (β j), b < n
  ne : ∀ i j p F q G, kindOf ks i = .letterB .fresh p F → kindOf ks j = .letterB .fresh q G → i ≠ j → L i = true → L j = true → ∀ b ∈ blksOf (β i), b ∉ blksOf (β j)
theorem FreshP.step {ks : Kinds} {L : Nat → Bool} {β : Nat → Value} {n n' i : Nat} (h : FreshP ks L β n) (hn : n ≤ n') (hi : ∀ p F, kindOf ks i ≠ .letterB .fresh p F) : FreshP ks (updL L i) β n' :=
  ⟨fun j p F hj hL b hb => Nat.lt_of_lt_of_le (h.lt j p F hj (by rwa [updL_far L (fun e => hi p F (by rw [← e]; exact hj))] at hL) b hb) hn,
   fun a j p F q G ha hj hne hLa hLj => h.ne a j p F q G ha hj hne (by rwa [updL_far L (fun e => hi p F (by rw [← e]; exact ha))] at hLa) (by rwa [updL_far L (fun e => hi q G (by rw [← e]; exact hj))] at hLj)⟩
theorem FreshP.new {ks : Kinds} {L : Nat → Bool} {β : Nat → Value} {n n' i : Nat} (h : FreshP ks L β n) (hn : n ≤ n') (hu : ∀ b ∈ blksOf (β i), n ≤ b ∧ b < n') : FreshP ks (updL L i) β n' := by
  refine ⟨fun j p F hj hL b hb => ?_, fun a j p F q G ha hj hne hLa hLj b hb hb' => ?_⟩
  · rcases updL_cases hL with e | ⟨_, hL'⟩
    · subst e; exact (hu b hb).2
    · exact Nat.lt_of_lt_of_le (h.lt j p F hj hL' b hb) hn
  · rcases updL_cases hLa with e | ⟨_, hLa'⟩ <;> rcases updL_cases hLj with e' | ⟨_, hLj'⟩
    · exact hne (e.trans e'.symm)
    · subst e
      have := h.lt j q G hj hLj' b hb'
      have := (hu b hb).1
      omega
    · subst e'
      have := h.lt a p F ha hLa' b hb
      have := (hu b hb').1
      omega
    · exact h.ne a j p F q G ha hj hne hLa' hLj' b hb hb'
theorem updL_false {L : Nat → Bool} {i j : Nat} (h : updL L i j = false) : j ≠ i ∧ L j = false := by
  by_cases e : j = i
  · subst e; rw [updL_here] at h; cases h
  · exact ⟨e, by rwa [updL_far L e] at h⟩
/-- What holds of a world, and of a frame, some operations having been done, the letters being β. -/
structure Part (ks : Kinds) (ops : Array Oper) (wr : World) (V : (Nat → Value) → Nat → Value) (L : Nat → Bool) (β : Nat → Value) (a : Act) (w : World) : Prop where
  slot : ∀ (k : Nat) (o : Oper) t, ops[k]? = some o → L k = true → o.dst = some t → a.tmps[t]? = some (V β k)
  st : ∀ j b T old new, kindOf ks j = .store b T old new → Blk w b T (if L j = true then new β else old)
  al : ∀ j s T z n, kindOf ks j = .alloc s T z n → L j = true → ∃ b, β j = .pointer (some ⟨b, 0, none⟩) ∧ wr.heap.size ≤ b ∧ Blk w b T (if L s = true then n β else z)
  ne : ∀ i s T z n j s' T' z' n', kindOf ks i = .alloc s T z n → kindOf ks j = .alloc s' T' z' n' → i ≠ j → L i = true → L j = true → β i ≠ β j
  lt : ∀ j {f} p F, kindOf ks j = .letterB f p F → L j = true → p (β j) ∧ F (β j) w
  fr : FreshP ks L β w.heap.size
  gr : ∀ j b p F, kindOf ks j = .letterB (.grow b) p F → b < w.heap.size ∧ (L j = false → w.heap[b]? = wr.heap[b]?)
  sm : ∀ j b, kindOf ks j = .smear b → b < w.heap.size ∧ ((∀ k, kindOf ks k = .smear b → L k = false) → w.heap[b]? = wr.heap[b]?) ∧ shp w.heap[b]? = shp wr.heap[b]?
theorem Kept.of_below {ks : Kinds} {wr w w' : World} (h : Below w.heap.size w w') : Kept ks wr w w' := ⟨h.size, fun k hk _ _ => h.block k hk⟩
/-- The world has grown; nothing special has been done. -/
theorem Part.grow {ks : Kinds} {ops : Array Oper} {wr : World} {V : (Nat → Value) → Nat → Value} {L : Nat → Bool} {β : Nat → Value} {a a' : Act} {w w' : World} {i : Nat}
    (h : Part ks ops wr V L β a w) (ht : tiedK ops ks = true) (hk : kindOf ks i = .val ∨ ∃ v, kindOf ks i = .call v) (hb : Below w.heap.size w w')
    (hstab : ∀ x ∈ ks, stabK ks wr x.2) (hs : ∀ (k : Nat) (o : Oper) t, ops[k]? = some o → updL L i k = true → o.dst = some t → a'.tmps[t]? = some (V β k)) : Part ks ops wr V (updL L i) β a' w' := by
  have hne : ∀ j, kindOf ks j ≠ .val → (∀ v, kindOf ks j ≠ .call v) → j ≠ i := fun j h1 h2 e => by
    subst e
    rcases hk with hk | ⟨v, hk⟩
    · exact h1 hk
    · exact h2 v hk
  refine ⟨hs, ?_, ?_, ?_, ?_, h.fr.step hb.size (fun p F e => by rcases hk with hk | ⟨v, hk⟩ <;> (rw [hk] at e; cases e)), fun j b p F hj => (let ⟨h1, h2⟩ := h.gr j b p F hj; ⟨Nat.lt_of_lt_of_le h1 hb.size, fun hL => (hb.block b h1).trans (h2 (updL_false hL).2)⟩), fun j b hj => (let ⟨h1, h2, h3⟩ := h.sm j b hj; ⟨Nat.lt_of_lt_of_le h1 hb.size, fun hL => (hb.block b h1).trans (h2 (fun k hk => (updL_false (hL k hk)).2)), (congrArg shp (hb.block b h1)).trans h3⟩)⟩
  · intro j b T old new hj
    rw [updL_far L (hne j (by rw [hj]; simp) (by rw [hj]; simp))]
    exact (h.st j b T old new hj).next hb
  · intro j s T z n hj hL
    have hji := hne j (by rw [hj]; simp) (by rw [hj]; simp)
    have hs' := (kind_tied ht hj).1
    rw [updL_far L hji] at hL
    obtain ⟨b, h1, h2, h3⟩ := h.al j s T z n hj hL
    rw [updL_far L (hne s (by rw [hs']; simp) (by rw [hs']; simp))]
    exact ⟨b, h1, h2, h3.next hb⟩
  · intro i' s T z n j s' T' z' n' h1 h2 hij hL1 hL2
    rw [updL_far L (hne i' (by rw [h1]; simp) (by rw [h1]; simp))] at hL1
    rw [updL_far L (hne j (by rw [h2]; simp) (by rw [h2]; simp))] at hL2
    exact h.ne i' s T z n j s' T' z' n' h1 h2 hij hL1 hL2
  · intro j f p F hj hL
    rw [updL_far L (hne j (by rw [hj]; simp) (by rw [hj]; simp))] at hL
    obtain ⟨h1, h2⟩ := h.lt j p F hj hL
    exact ⟨h1, stab_use (hstab _ (kind_mem hj (by simp))) (Kept.of_below hb) (fun b e => by subst e; exact hb.block b (h.gr j b p F hj).1) h2⟩
end Go.Proofs.YtegcebdnofnigaaDoor

/-
  A region that draws its order, by one fact for each of its operations: whatever the order, in the end all of them hold. (No statement of the seat is named here.)
-/
import Derived.Test.YtegcebdnofnigaaDoorGen
import Derived.RegionTactic
namespace Go.Proofs.YtegcebdnofnigaaDoor

open Go

theorem count_set (l : List Bool) (i : Nat) (h : l[i]? = some false) : (l.set i true).count false + 1 = l.count false := by
  induction l generalizing i with
  | nil => simp at h
  | cons b l ih =>
    cases i with
    | zero =>
      simp at h
      subst h
      simp
    | succ i =>
      have h2 := ih i (by simpa using h)
      rw [List.set_cons_succ, List.count_cons, List.count_cons]
      omega
section

variable {P : Program} {ops : Array Oper} {Q : Exit → Act → World → Prop} {md : Region.Mode}

theorem ready_mem {listed : Array Bool} {i : Nat} (h : i ∈ Region.ready md ops listed) :
    ∃ o, ops[i]? = some o ∧ listed.getD i true = false ∧ ∀ e ∈ o.after, Region.binds md e = true → listed.getD e.on false = true := by
  unfold Region.ready at h
  rw [List.mem_filter, List.mem_range, Bool.and_eq_true] at h
  obtain ⟨hi, h1, h2⟩ := h
  refine ⟨ops[i], Array.getElem?_eq_getElem hi, by simpa using h1, fun e he hb => ?_⟩
  rw [Array.getElem?_eq_getElem hi] at h2
  simp only [Option.map_some, Option.getD_some, Array.all_eq_true'] at h2
  have h3 := h2 e he
  rw [hb] at h3
  simpa using h3
theorem ready_of {listed : Array Bool} {i : Nat} {o : Oper} (hi : ops[i]? = some o) (h1 : listed.getD i true = false) (h2 : ∀ e ∈ o.after, Region.binds md e = true → listed.getD e.on false = true) : i ∈ Region.ready md ops listed := by
  unfold Region.ready
  rw [List.mem_filter, List.mem_range, Bool.and_eq_true]
  refine ⟨(Array.getElem?_eq_some_iff.1 hi).1, by rw [h1]; rfl, ?_⟩
  rw [hi]
  simp only [Option.map_some, Option.getD_some, Array.all_eq_true']
  intro e he
  cases hb : Region.binds md e
  · rfl
  · rw [h2 e he hb]; rfl
theorem ready_nil (hacy : ∀ i o, ops[i]? = some o → ∀ e ∈ o.after, Region.binds md e = true → e.on < i) {listed : Array Bool} (hs : listed.size = ops.size) (h : Region.ready md ops listed = []) : ∀ i, i < ops.size → listed.getD i false = true := by
  intro i
  induction i using Nat.strongRecOn with
  | ind i ih =>
    intro hi
    have hli : i < listed.size := by omega
    cases hb : listed.getD i false
    · exfalso
      have h1 : listed.getD i true = false := by
        simp only [Array.getD, hli, dif_pos] at hb ⊢
        exact hb
      have h2 := ready_of (md := md) (Array.getElem?_eq_getElem hi) h1 (fun e he hbd => by
        have hlt := hacy i _ (Array.getElem?_eq_getElem hi) e he hbd
        exact ih e.on hlt (by omega))
      rw [h] at h2
      cases h2
    · rfl
/-- THE RULE. G: what holds all the while; R i: what operation i has brought about. -/
theorem wpAny_each (G : Act → World → Prop) (R : Nat → Act → World → Prop)
    (hacy : ∀ i o, ops[i]? = some o → ∀ e ∈ o.after, Region.binds md e = true → e.on < i)
    (hstep : ∀ i o, ops[i]? = some o → ∀ a w, G a w → (∀ e ∈ o.after, Region.binds md e = true → R e.on a w) → wpOp P ops Q i (fun a' w' => G a' w' ∧ R i a' w' ∧ ∀ j, j ≠ i → R j a w → R j a' w') a w)
    (hend : ∀ a w, G a w → (∀ i, i < ops.size → R i a w) → Q .normal a w) :
    ∀ (fuel : Nat) (listed : Array Bool) (a : Act) (w : World), listed.size = ops.size → listed.toList.count false ≤ fuel → G a w → (∀ i, listed.getD i false = true → R i a w) → wpAny P md ops Q fuel listed a w := by
  intro fuel
  induction fuel with
  | zero =>
    intro listed a w hs hc hG hR
    have hn : Region.ready md ops listed = [] := by
      apply List.eq_nil_iff_forall_not_mem.2
      intro i hi
      obtain ⟨o, ho, h1, _⟩ := ready_mem hi
      have hli : i < listed.size := by rw [hs]; exact (Array.getElem?_eq_some_iff.1 ho).1
      have h2 : listed.toList[i]? = some false := by
        simp only [Array.getD, hli, dif_pos] at h1
        rw [Array.getElem?_toList, Array.getElem?_eq_getElem hli]
        exact congrArg some h1
      have := count_set _ _ h2
      omega
    exact ⟨hn, hend a w hG fun i hi => hR i (ready_nil hacy hs hn i hi)⟩
  | succ fuel ih =>
    intro listed a w hs hc hG hR
    refine ⟨fun hn => hend a w hG fun i hi => hR i (ready_nil hacy hs hn i hi), fun i hi => ?_⟩
    obtain ⟨o, ho, h1, h3⟩ := ready_mem hi
    have hli : i < listed.size := by rw [hs]; exact (Array.getElem?_eq_some_iff.1 ho).1
    have h2 : listed.toList[i]? = some false := by
      simp only [Array.getD, hli, dif_pos] at h1
      rw [Array.getElem?_toList, Array.getElem?_eq_getElem hli]
      exact congrArg some h1
    refine wpOp_mono (fun a' w' hk => ?_) (hstep i o ho a w hG fun e he hb => hR e.on (h3 e he hb))
    obtain ⟨hG', hRi, hRj⟩ := hk
    refine ih _ a' w' (by simpa using hs) ?_ hG' ?_
    · have := count_set _ _ h2
      rw [Array.toList_setIfInBounds]
      omega
    · intro j hj
      by_cases e : j = i
      · subst e; exact hRi
      · refine hRj j e (hR j ?_)
        rw [← hj]
        by_cases hl : j < listed.size
        · simp only [Array.getD, Array.size_setIfInBounds, hl, dif_pos]
          change listed[j] = (listed.setIfInBounds i true)[j]'(by simpa using hl)
          rw [Array.getElem_setIfInBounds]
          rw [if_neg (Ne.symm e)]
        · simp [Array.getD, hl]
theorem wp_region_each {id : Nat} {a : Act} {w : World} (hm : P.follows .mixedOrders = true) (G : Act → World → Prop) (R : Nat → Act → World → Prop)
    (hacy : ∀ i o, ops[i]? = some o → ∀ e ∈ o.after, Region.binds .any e = true → e.on < i)
    (hstep : ∀ i o, ops[i]? = some o → ∀ a w, G a w → (∀ e ∈ o.after, Region.binds .any e = true → R e.on a w) → wpOp P ops Q i (fun a' w' => G a' w' ∧ R i a' w' ∧ ∀ j, j ≠ i → R j a w → R j a' w') a w)
    (hend : ∀ a w, G a w → (∀ i, i < ops.size → R i a w) → Q .normal a w) (h0 : G a w.drew) : (Code.region id ops true).wp P Q a w :=
  wp_region_any hm (wpAny_each G R hacy hstep hend ops.size _ a _ (by simp) (by simp) h0 (fun i hi => by simp [Array.getD] at hi))
/-! Steps: an operation that yields a value, one that yields none, a call. -/
theorem each_value {i : Nat} {o : Oper} {a : Act} {w w' : World} {v : Value} {K : Act → World → Prop} (ho : ops[i]? = some o) (hg : o.guard = none) (hrun : (execOp a.eval o).run P w = .ok (.value v) w') (hK : K (a.put o.dst v) w') : wpOp P ops Q i K a w := by
  unfold wpOp
  rw [ho]
  have hw : Region.wanted o (yielded ops a.tmps) = true := by simp [Region.wanted, hg]
  simp only [hw, if_true]
  left
  unfold Oper.wp
  rw [hrun]
  exact hK
theorem each_skip {i : Nat} {o : Oper} {a : Act} {w w' : World} {K : Act → World → Prop} (ho : ops[i]? = some o) (hg : o.guard = none) (hrun : (execOp a.eval o).run P w = .ok .skip w') (hK : K (a.put o.dst undef) w') : wpOp P ops Q i K a w := by
  unfold wpOp
  rw [ho]
  have hw : Region.wanted o (yielded ops a.tmps) = true := by simp [Region.wanted, hg]
  simp only [hw, if_true]
  left
  unfold Oper.wp
  rw [hrun]
  exact hK
theorem each_call {i : Nat} {o : Oper} {a : Act} {w w' : World} {f : FuncId} {args : Array Value} {K : Act → World → Prop} (ho : ops[i]? = some o) (hg : o.guard = none) (hrun : (execOp a.eval o).run P w = .ok (.enter f args) w') (hK : Calls P f args w' fun e w'' => ∃ v, e = .returned v ∧ K (a.put o.dst v) w'') : wpOp P ops Q i K a w := by
  unfold wpOp
  rw [ho]
  have hw : Region.wanted o (yielded ops a.tmps) = true := by simp [Region.wanted, hg]
  simp only [hw, if_true]
  left
  unfold Oper.wp
  rw [hrun]
  refine Calls.mono hK (fun e w'' he => ?_)
  obtain ⟨v, rfl, hk⟩ := he
  exact hk
end

/-- A slot, read behind a put. -/
theorem put_far (a : Act) (t t' : Nat) (v : Value) (h : t ≠ t') : (a.put (some t) v).tmps[t']? = a.tmps[t']? := by
  simp [Act.put, h]
theorem put_here (a : Act) (t : Nat) (v : Value) (h : t < a.tmps.size) : (a.put (some t) v).tmps[t]? = some v := by
  simp [Act.put, h]
end Go.Proofs.YtegcebdnofnigaaDoor

/-
  A region that draws its order, walked once in the order of the text: the theorem.
-/
import Derived.Test.YtegcebdnofnigaaDoorMixB
namespace Go.Proofs.YtegcebdnofnigaaDoor

open Go Go.RowKit

theorem looks_mem {ops : Array Oper} {o : Oper} {t : Nat} (h : .tmp t ∈ o.op.operands) : t ∈ o.looksAt ops := by
  unfold Oper.looksAt
  exact List.mem_append_left _ (List.mem_filterMap.2 ⟨.tmp t, by simpa using h, rfl⟩)
/-- Two frames that agree where an operation looks. -/
theorem same_exec {ops : Array Oper} {o : Oper} {a b : Act} (hsel : ∀ cs d, o.op ≠ .select cs d) (h : ∀ t ∈ o.looksAt ops, a.tmps[t]? = b.tmps[t]?) :
    execOp a.eval o = execOp b.eval o ∧ Region.wanted o (yielded ops a.tmps) = Region.wanted o (yielded ops b.tmps) := by
  constructor
  · refine execOp_congr o hsel fun x hx => ?_
    cases x with
    | tmp t =>
      show a.tmps.getD t undef = b.tmps.getD t undef
      have := h t (looks_mem hx)
      rw [Array.getD_eq_getD_getElem?, Array.getD_eq_getD_getElem?, this]
    | _ => rfl
  · unfold Region.wanted
    cases hg : o.guard with
    | none => rfl
    | some gw =>
      obtain ⟨g, want⟩ := gw
      have hy : yielded ops a.tmps g = yielded ops b.tmps g := by
        unfold yielded
        cases ht : (ops[g]?).bind (·.dst) with
        | none => rfl
        | some t =>
          have := h t (by unfold Oper.looksAt; rw [hg]; simp [ht])
          simp [this]
      simp only [hy]
/-- The end's facts. -/
structure AtEnd (ks : Kinds) (wr : World) (β : Nat → Value) (w : World) : Prop where
  only : Only (stores ks) wr w
  facts : ∀ i, endK wr β i w (kindOf ks i)
  ne : ∀ i j, i ≠ j → unlikeK β i j (kindOf ks i) (kindOf ks j)

theorem text_spec {ops : Array Oper} (h : textOk ops = true) :
    (∀ (i : Nat) (o : Oper), ops[i]? = some o → ∀ cs d, o.op ≠ .select cs d) ∧ (∀ i j, dep ops j i = true → i < j) ∧
    (∀ (i j : Nat) (x y : Oper), i < j → ops[i]? = some x → ops[j]? = some y → (x.apart ops y = true ∨ dep ops j i = true)) ∧
    (∀ (i j : Nat) (x y : Oper) (t : Nat), i < j → ops[i]? = some x → ops[j]? = some y → x.dst = some t → y.dst ≠ some t) := by
  unfold textOk at h
  rw [Bool.and_eq_true, Bool.and_eq_true] at h
  obtain ⟨⟨h1, h0⟩, h2⟩ := h
  have lt : ∀ {i : Nat} {o : Oper}, ops[i]? = some o → i < ops.size := fun h => (Array.getElem?_eq_some_iff.1 h).1
  have key : ∀ i j : Nat, i < ops.size → j < ops.size → _ := fun i j hi hj => List.all_eq_true.1 (List.all_eq_true.1 h2 j (List.mem_range.2 hj)) i (List.mem_range.2 hi)
  refine ⟨fun i o ho cs d e => ?_, fun i j hd => ?_, fun i j x y hij hx hy => ?_, fun i j x y t hij hx hy hdx hdy => ?_⟩
  · rw [Array.all_eq_true'] at h1
    have := h1 o (Array.mem_of_getElem? ho)
    rw [e] at this
    cases this
  · obtain ⟨o, ho⟩ := dep_some hd
    obtain ⟨e, he, hb, hei⟩ := of_dep ho hd
    have := List.all_eq_true.1 h0 j (List.mem_range.2 (lt ho))
    rw [ho] at this
    have h' : (o.after.all fun e => !Region.binds .any e || decide (e.on < j)) = true := this
    rw [Array.all_eq_true'] at h'
    have := h' e he
    rw [hb, hei] at this
    simpa using this
  · have := key i j (lt hx) (lt hy)
    rw [if_pos hij, hx, hy] at this
    simp only [Bool.and_eq_true, Bool.or_eq_true] at this
    exact this.1
  · have := key i j (lt hx) (lt hy)
    rw [if_pos hij, hx, hy] at this
    simp only [Bool.and_eq_true, Bool.or_eq_true] at this
    rcases this.2 with h | h
    · rw [hdx] at h; cases h
    · rw [hdx, hdy] at h; simp at h
end Go.Proofs.YtegcebdnofnigaaDoor

/-
  A region that draws its order, walked once in the order of the text: whatever the order.
-/
import Derived.Test.YtegcebdnofnigaaDoorMixC
namespace Go.Proofs.YtegcebdnofnigaaDoor

open Go Go.RowKit

def updV (β : Nat → Value) (i : Nat) (v : Value) : Nat → Value := fun j => if j = i then v else β j
theorem updV_here (β : Nat → Value) (i : Nat) (v : Value) : updV β i v i = v := if_pos rfl
theorem updV_far (β : Nat → Value) {i j : Nat} (v : Value) (h : j ≠ i) : updV β i v j = β j := if_neg h
theorem smear_dep {ks : Kinds} {ops : Array Oper} {b i j : Nat} (h : unsmeared ks ops b i = true) (hj : (j, Kind.smear b) ∈ ks) : dep ops j i = true := by
  have h2 := List.all_eq_true.1 h _ hj
  simpa using h2
theorem freshStep {ks : Kinds} {L : Nat → Bool} {β : Nat → Value} {w w' : World} {i : Nat} {fr : LTag} {p : Value → Prop} {F : Value → World → Prop} (h : FreshP ks L β w.heap.size) (hn : w.heap.size ≤ w'.heap.size) (hk : kindOf ks i = .letterB fr p F) (hu : FreshB fr (β i) w w') : FreshP ks (updL L i) β w'.heap.size := by
  cases fr with
  | fresh => exact h.new hn (hu rfl)
  | _ => exact h.step hn (fun q G e => by rw [hk] at e; cases e)
set_option maxHeartbeats 1000000 in
theorem wp_region_mix {P : Program} {id : Nat} {ops : Array Oper} {a0 : Act} {w : World} {Q : Exit → Act → World → Prop} (hm : P.follows .mixedOrders = true) (ks : Kinds)
    (htext : textOk ops = true) (htied : tiedK ops ks = true) (hslots : slotsOk ops a0.tmps.size = true) (hkeys : ks.all (fun x => decide (x.1 < ops.size)) = true)
    (hapart : ks.Pairwise fun x y => apartK x.2 y.2) (hstart : ∀ x ∈ ks, startK w x.2) (hstab : ∀ x ∈ ks, stabK ks w x.2)
    (hok : ∃ β, ∀ i, okK w β i (kindOf ks i))
    (hwalk : ∀ β, (∀ i, okK w β i (kindOf ks i)) → Lex P ks ops w β (fun a => ∀ w', AtEnd ks w β w' → Q .normal a w') 0 ops.toList a0) :
    (Code.region id ops true).wp P Q a0 w := by
  obtain ⟨hsel, hacy, hcl, hone⟩ := text_spec htext
  have hsl : ∀ (i : Nat) (o : Oper) d, ops[i]? = some o → o.dst = some d → d < a0.tmps.size := fun i o d ho hd => by
    unfold slotsOk at hslots
    rw [Array.all_eq_true'] at hslots
    have := hslots o (Array.mem_of_getElem? ho)
    rw [hd] at this
    simpa using this
  have uniq : ∀ (i j : Nat) (x y : Oper) (t : Nat), ops[i]? = some x → ops[j]? = some y → x.dst = some t → y.dst = some t → i = j := fun i j x y t hx hy hdx hdy => by
    rcases Nat.lt_trichotomy i j with h | h | h
    · exact absurd hdy (hone i j x y t h hx hy hdx)
    · exact h
    · exact absurd hdx (hone j i y x t h hy hx hdy)
  have hvs : ∀ β, ∃ vs : Nat → Value, (∀ i, okK w β i (kindOf ks i)) → ((∀ (k : Nat) o, ops[k]? = some o →
      (Region.wanted o (yielded ops (fr ops a0 vs k).tmps) = true ∧ Yield P ks ops w β k o (fr ops a0 vs k) (vs k) (kindOf ks k)) ∨
      (Region.wanted o (yielded ops (fr ops a0 vs k).tmps) = false ∧ kindOf ks k = .val ∧ vs k = undef)) ∧ ∀ w', AtEnd ks w β w' → Q .normal (fr ops a0 vs ops.size) w') := fun β => by
    by_cases hβ : ∀ i, okK w β i (kindOf ks i)
    · obtain ⟨vs, _, h2, h3⟩ := lex_run (P := P) (ks := ks) (ops := ops) (wr := w) (β := β) (a0 := a0) ops.toList 0 (fun _ => undef) (fun j => by simp) (hwalk β hβ)
      refine ⟨vs, fun _ => ⟨fun k o ho => h2 k o (Nat.zero_le _) ho, ?_⟩⟩
      simpa using h3
    · exact ⟨fun _ => undef, fun h => absurd h hβ⟩
  obtain ⟨V, hV⟩ := Classical.axiomOfChoice hvs
  have stb : ∀ i b T old new, kindOf ks i = .store b T old new → b ∈ stores ks := fun i b T old new h => by
    unfold stores
    exact List.mem_filterMap.2 ⟨_, kind_mem h (by simp), rfl⟩
  have stlt : ∀ i b T old new, kindOf ks i = .store b T old new → b < w.heap.size := fun i b T old new h => Blk.lt (show Blk w b T old from hstart _ (kind_mem h (by simp)))
  refine wp_region_any hm (wpAny_inv (P := P) (Q := Q) (fun L a w' => a.defers = a0.defers ∧ a.tmps.size = a0.tmps.size ∧ Only (stores ks) w w' ∧
      (∀ t, (∀ (k : Nat) o, ops[k]? = some o → L k = true → o.dst ≠ some t) → a.tmps[t]? = a0.tmps[t]?) ∧
      ∃ β0, (∀ i, okK w β0 i (kindOf ks i)) ∧ ∀ β, (∀ i, okK w β i (kindOf ks i)) → (∀ j, L j = true → β j = β0 j) → Part ks ops w V L β a w') hacy ?step ?fin ops.size _ a0 _ (by simp) (by simp) ?clos ?start)
  case clos =>
    intro j i _ h
    simp [Array.getD] at h
  case start =>
    refine ⟨rfl, rfl, Only.start w, fun _ _ => rfl, ?_⟩
    obtain ⟨β0, h0⟩ := hok
    have hF : ∀ j, (Array.replicate ops.size false).getD j false = false := fun j => by simp [Array.getD]
    refine ⟨β0, h0, fun β hβ _ => ⟨?_, ?_, ?_, ?_, ?_, ?_, ?_, ?_⟩⟩
    · intro k o t _ h; simp only [hF] at h; cases h
    · intro j b T old new hj
      simp only [hF, if_neg Bool.false_ne_true]
      exact (show Blk w b T old from hstart _ (kind_mem hj (by simp)))
    · intro j s T z n _ h; simp only [hF] at h; cases h
    · intro i s T z n j s' T' z' n' _ _ _ h; simp only [hF] at h; cases h
    · intro j f p F _ h; simp only [hF] at h; cases h
    · exact ⟨fun j p F _ h => (by simp only [hF] at h; cases h), fun i j p F q G _ _ _ h => (by simp only [hF] at h; cases h)⟩
    · exact fun j b p F hj => ⟨show b < w.heap.size from hstart _ (kind_mem hj (by simp)), fun _ => rfl⟩
    · exact fun j b hj => ⟨show b < w.heap.size from hstart _ (kind_mem hj (by simp)), fun _ => rfl, rfl⟩
  case fin =>
    intro L a w' hL ⟨hd, hs, ho, hn, β0, h0, hP⟩
    have hp := hP β0 h0 (fun _ _ => rfl)
    obtain ⟨_, hF⟩ := hV β0 h0
    have ea : a = fr ops a0 (V β0) ops.size := by
      have hdef : a.defers = (fr ops a0 (V β0) ops.size).defers := by rw [hd, fr_defers]
      have htm : a.tmps = (fr ops a0 (V β0) ops.size).tmps := by
        apply Array.ext_getElem?
        intro t
        by_cases hw : ∃ (k : Nat) (y : Oper), ops[k]? = some y ∧ y.dst = some t
        · obtain ⟨k, y, hy, hdy⟩ := hw
          have hk : k < ops.size := (Array.getElem?_eq_some_iff.1 hy).1
          rw [hp.slot k y t hy (hL k hk) hdy, fr_some hone (hsl k y t hy hdy) ops.size k y hk hy hdy]
        · rw [hn t (fun k o hk _ e => hw ⟨k, o, hk, e⟩), fr_none t ops.size (fun j o _ hj e => hw ⟨j, o, hj, e⟩)]
      cases a
      simp only at hdef htm
      rw [hdef, htm]
    rw [ea]
    have hlt : ∀ i k, kindOf ks i = k → k ≠ .val → L i = true := fun i k h hne => by
      have := List.all_eq_true.1 hkeys _ (kind_mem h hne)
      exact hL i (by simpa using this)
    refine hF w' ⟨ho, fun i => ?_, fun i j hij => ?_⟩
    · cases hk : kindOf ks i with
      | store b T old new =>
        have := hp.st i b T old new hk
        rw [if_pos (hlt i _ hk (by simp))] at this
        exact this
      | alloc s T z n =>
        have := hp.al i s T z n hk (hlt i _ hk (by simp))
        rw [if_pos (hlt s _ (kind_tied htied hk).1 (by simp))] at this
        exact this
      | letterB f p F => exact hp.lt i p F hk (hlt i _ hk (by simp))
      | _ => exact trivial
    · cases hi : kindOf ks i with
      | alloc s T z n =>
        cases hj : kindOf ks j with
        | alloc s' T' z' n' => exact hp.ne i s T z n j s' T' z' n' hi hj hij (hlt i _ hi (by simp)) (hlt j _ hj (by simp))
        | _ => exact trivial
      | letterB f p F =>
        cases hj : kindOf ks j with
        | letterB g q G =>
          cases f <;> cases g <;> first | exact trivial | exact hp.fr.ne i j p F q G hi hj hij (hlt i _ hi (by simp)) (hlt j _ hj (by simp))
        | _ => cases f <;> exact trivial
      | _ => exact trivial
  case step =>
    intro i o L a w' ho hLi hdep hneg ⟨hd, hs, hon, hn, β0, h0, hP⟩
    have hsame : ∀ β, (∀ i, okK w β i (kindOf ks i)) → (∀ j, L j = true → β j = β0 j) →
        execOp a.eval o = execOp (fr ops a0 (V β) i).eval o ∧ Region.wanted o (yielded ops a.tmps) = Region.wanted o (yielded ops (fr ops a0 (V β) i).tmps) := fun β hβ hag => by
      have hp := hP β hβ hag
      refine same_exec (hsel i o ho) fun t ht => ?_
      by_cases hw : ∃ (k : Nat) (y : Oper), ops[k]? = some y ∧ y.dst = some t
      · obtain ⟨k, y, hy, hdy⟩ := hw
        have hnot : k < i ∨ (¬ k < i ∧ L k = false) := by
          rcases Nat.lt_trichotomy k i with h | h | h
          · exact .inl h
          · subst h; exact .inr ⟨by omega, hLi⟩
          · refine .inr ⟨by omega, ?_⟩
            rcases hcl i k o y h ho hy with hap | hdp
            · exact absurd ht ((Oper.apart_spec hap).2.2 t hdy)
            · exact hneg k hdp
        rcases hnot with h | ⟨h, hLk⟩
        · rw [fr_some hone (hsl k y t hy hdy) i k y h hy hdy]
          refine hp.slot k y t hy ?_ hdy
          rcases hcl k i y o h hy ho with hap | hdp
          · exact absurd ht ((Oper.apart_spec hap).1 t hdy)
          · exact hdep k hdp
        · rw [hn t (fun k' o' hk' hL' e => by rw [uniq k' k o' y t hk' hy e hdy, hLk] at hL'; cases hL'),
            fr_none t i (fun j o' hj ho' e => by have := uniq j k o' y t ho' hy e hdy; omega)]
      · rw [hn t (fun k o hk _ e => hw ⟨k, o, hk, e⟩), fr_none t i (fun j o _ hj e => hw ⟨j, o, hj, e⟩)]
    have hfacts : ∀ β, (∀ i, okK w β i (kindOf ks i)) → (∀ j, L j = true → β j = β0 j) → Facts ks ops w β i w' := fun β hβ hag => by
      have hp := hP β hβ hag
      refine ⟨hon, fun j b T old new hj hdj => ?_, fun j f p F hj hdj => (hp.lt j p F hj (hdep j hdj)).2, fun j k hj hk' hne hdj hdk => by
        obtain ⟨p, F, e1⟩ := fresh_of hj
        obtain ⟨q, G, e2⟩ := fresh_of hk'
        exact hp.fr.ne j k p F q G e1 e2 hne (hdep j hdj) (hdep k hdk), fun j b p F hj hor => (hp.gr j b p F hj).2 (by
          rcases hor with e | e
          · rw [e]; exact hLi
          · exact hneg j e), fun j b hj hun => (hp.sm j b hj).2.1 (fun k hk => hneg k (smear_dep hun (kind_mem hk (by simp)))), fun j b hj => (hp.sm j b hj).2.2⟩
      have := hp.st j b T old new hj
      rw [hneg j hdj] at this
      simpa using this
    have hnone : ∀ v, ∀ t, (∀ (k : Nat) o, ops[k]? = some o → updL L i k = true → o.dst ≠ some t) → (a.put o.dst v).tmps[t]? = a0.tmps[t]? := fun v t h => by
      rw [put_other _ _ _ _ (h i o ho (updL_here _ _))]
      refine hn t fun k o' hk hLk => h k o' hk ?_
      by_cases e : k = i
      · subst e; exact updL_here _ _
      · rw [updL_far _ e]; exact hLk
    have hslot : ∀ β v, Part ks ops w V L β a w' → V β i = v → ∀ (k : Nat) (o' : Oper) t, ops[k]? = some o' → updL L i k = true → o'.dst = some t → (a.put o.dst v).tmps[t]? = some (V β k) := fun β v hp hv k o' t hk hLk hdk => by
      rcases updL_cases hLk with e | ⟨e, hLk'⟩
      · subst e
        rw [ho] at hk
        injection hk with hk
        subst hk
        rw [hdk, put_here _ _ _ (by rw [hs]; exact hsl k o t ho hdk), hv]
      · rw [put_other]
        · exact hp.slot k o' t hk hLk' hdk
        · intro e'
          exact e (uniq k i o' o t hk ho hdk e')
    have hagree : ∀ β : Nat → Value, (∀ j, updL L i j = true → β j = β0 j) → ∀ j, L j = true → β j = β0 j := fun β h j hj => h j (by
      by_cases e : j = i
      · subst e; exact updL_here _ _
      · rw [updL_far _ e]; exact hj)
    obtain ⟨hrun, _⟩ := hV β0 h0
    obtain ⟨se, sw⟩ := hsame β0 h0 (fun _ _ => rfl)
    unfold wpOp
    rw [ho]
    show if Region.wanted o (yielded ops a.tmps) = true then _ else _
    have grown : ∀ v w2, (kindOf ks i = .val ∨ ∃ u, kindOf ks i = .call u) → Below w'.heap.size w' w2 → (∀ β, (∀ i, okK w β i (kindOf ks i)) → (∀ j, L j = true → β j = β0 j) → V β i = v) →
        (a.put o.dst v).defers = a0.defers ∧ (a.put o.dst v).tmps.size = a0.tmps.size ∧ Only (stores ks) w w2 ∧
        (∀ t, (∀ (k : Nat) o, ops[k]? = some o → updL L i k = true → o.dst ≠ some t) → (a.put o.dst v).tmps[t]? = a0.tmps[t]?) ∧
        ∃ β0, (∀ i, okK w β0 i (kindOf ks i)) ∧ ∀ β, (∀ i, okK w β i (kindOf ks i)) → (∀ j, updL L i j = true → β j = β0 j) → Part ks ops w V (updL L i) β (a.put o.dst v) w2 := fun v w2 hk hb hv => by
      refine ⟨by rw [put_defers, hd], by rw [put_size, hs], hon.next hb, hnone v, β0, h0, fun β hβ hag => ?_⟩
      have hp := hP β hβ (hagree β hag)
      exact Part.grow hp htied hk hb hstab (hslot β v hp (hv β hβ (hagree β hag)))
    rcases hrun i o ho with ⟨hw, hy⟩ | ⟨hw, hk, hv⟩
    · rw [if_pos (sw.trans hw)]
      left
      unfold Oper.wp
      rw [se]
      cases hk : kindOf ks i with
      | val =>
        rw [hk] at hy
        rw [hy w' (hfacts β0 h0 (fun _ _ => rfl))]
        refine grown _ w' (.inl hk) (Below.refl _ _) fun β hβ hag => ?_
        obtain ⟨hrun', _⟩ := hV β hβ
        obtain ⟨se', sw'⟩ := hsame β hβ hag
        rcases hrun' i o ho with ⟨hw', hy'⟩ | ⟨hw', _, _⟩
        · rw [hk] at hy'
          have e1 := hy' w' (hfacts β hβ hag)
          rw [← se', se, hy w' (hfacts β0 h0 (fun _ _ => rfl))] at e1
          injection e1 with e1
          injection e1 with e1
          exact e1.symm
        · rw [← sw', sw, hw] at hw'; cases hw'
      | call u =>
        rw [hk] at hy
        obtain ⟨hvu, hy⟩ := hy
        obtain ⟨f, args, hr, hc⟩ := hy w' (hfacts β0 h0 (fun _ _ => rfl))
        rw [hr]
        refine Calls.mono hc fun e w2 ⟨he, hb⟩ => ?_
        subst he
        refine grown u w2 (.inr ⟨u, hk⟩) hb fun β hβ hag => ?_
        obtain ⟨hrun', _⟩ := hV β hβ
        obtain ⟨_, sw'⟩ := hsame β hβ hag
        rcases hrun' i o ho with ⟨_, hy'⟩ | ⟨hw', _, _⟩
        · rw [hk] at hy'; exact hy'.1
        · rw [← sw', sw, hw] at hw'; cases hw'
      | store b T old new =>
        rw [hk] at hy
        have hbl : ∀ β, Part ks ops w V L β a w' → Blk w' b T old := fun β hp => by
          have := hp.st i b T old new hk
          rw [hLi] at this
          simpa using this
        obtain ⟨w2, hr, hR0⟩ := hy.2 w' (hfacts β0 h0 (fun _ _ => rfl)) (hbl β0 (hP β0 h0 (fun _ _ => rfl)))
        rw [hr]
        have hblt := stlt i b T old new hk
        refine ⟨by rw [put_defers, hd], by rw [put_size, hs], ⟨hR0.os.trans hon.os, hR0.tape.trans hon.tape, hR0.output.trans hon.output, by rw [hR0.size]; exact hon.size, fun k hk' hS => (hR0.far k (fun e => hS (by rw [e]; exact stb i b T old new hk))).trans (hon.block k hk' hS)⟩, hnone undef, β0, h0, fun β hβ hag => ?_⟩
        have hag' := hagree β hag
        have hp := hP β hβ hag'
        obtain ⟨hrun', _⟩ := hV β hβ
        obtain ⟨se', sw'⟩ := hsame β hβ hag'
        rcases hrun' i o ho with ⟨_, hy'⟩ | ⟨hw', _, _⟩
        · rw [hk] at hy'
          obtain ⟨w3, hr', hR⟩ := hy'.2 w' (hfacts β hβ hag') (hbl β hp)
          rw [← se', se, hr] at hr'
          injection hr' with _ hr'
          subst hr'
          refine ⟨hslot β undef hp hy'.1, ?_, ?_, ?_, ?_, hp.fr.step (Nat.le_of_eq hR.size.symm) (fun p F e => by rw [hk] at e; cases e), fun j b' p F hj => by
            obtain ⟨g1, g2⟩ := hp.gr j b' p F hj
            have hji : j ≠ i := fun e => by subst e; rw [hk] at hj; cases hj
            have hne : b ≠ b' := pair_mem (R := fun (x y : Nat × Kind) => apartK x.2 y.2) (fun x y h => apartK_symm _ _ h) hapart (kind_mem hk (by simp)) (kind_mem hj (by simp)) (fun e' => hji (by injection e' with e1; exact e1.symm))
            exact ⟨by rw [hR.size]; exact g1, fun hL => (hR.far b' (Ne.symm hne)).trans (g2 (updL_false hL).2)⟩, fun j b' hj => by
            obtain ⟨g1, g2, g3⟩ := hp.sm j b' hj
            have hlt : b' < w.heap.size := hstart _ (kind_mem hj (by simp))
            exact ⟨by rw [hR.size]; exact g1, fun hL => (hR.far b' (Ne.symm (show b ≠ b' from pair_mem (R := fun (x y : Nat × Kind) => apartK x.2 y.2) (fun x y h => apartK_symm _ _ h) hapart (kind_mem hk (by simp)) (kind_mem hj (by simp)) (fun e' => by injection e' with e1; subst e1; rw [hk] at hj; cases hj)))).trans (g2 (fun k hk => (updL_false (hL k hk)).2)), (congrArg shp (hR.far b' (Ne.symm (show b ≠ b' from pair_mem (R := fun (x y : Nat × Kind) => apartK x.2 y.2) (fun x y h => apartK_symm _ _ h) hapart (kind_mem hk (by simp)) (kind_mem hj (by simp)) (fun e' => by injection e' with e1; subst e1; rw [hk] at hj; cases hj))))).trans g3⟩⟩
          · intro j b' T' old' new' hj
            by_cases e : j = i
            · subst e
              rw [hk] at hj
              injection hj with e1 e2 e3 e4
              subst e1 e2 e3 e4
              rw [updL_here, if_pos rfl]
              exact hR.here
            · rw [updL_far _ e]
              have hne : b ≠ b' := by
                have h3 := pair_mem (R := fun (x y : Nat × Kind) => apartK x.2 y.2) (fun x y h => apartK_symm _ _ h) hapart (kind_mem hk (by simp)) (kind_mem hj (by simp)) (fun e' => e (by injection e' with e1; exact e1.symm))
                exact h3
              exact (hR.far b' (Ne.symm hne)).trans (hp.st j b' T' old' new' hj)
          · intro j s T' z n hj hLj
            have e : j ≠ i := fun e => by subst e; rw [hk] at hj; cases hj
            have e2 : s ≠ i := fun e => by subst e; have := (kind_tied htied hj).1; rw [hk] at this; cases this
            rw [updL_far _ e] at hLj
            rw [updL_far _ e2]
            obtain ⟨b', g1, g2, g3⟩ := hp.al j s T' z n hj hLj
            exact ⟨b', g1, g2, (hR.far b' (by omega)).trans g3⟩
          · intro i' s T' z n j s' T'' z' n' h1 h2 hij hL1 hL2
            rw [updL_far _ (fun e => by subst e; rw [hk] at h1; cases h1)] at hL1
            rw [updL_far _ (fun e => by subst e; rw [hk] at h2; cases h2)] at hL2
            exact hp.ne i' s T' z n j s' T'' z' n' h1 h2 hij hL1 hL2
          · intro j f p F hj hLj
            rw [updL_far _ (fun e => by subst e; rw [hk] at hj; cases hj)] at hLj
            obtain ⟨g1, g2⟩ := hp.lt j p F hj hLj
            exact ⟨g1, stab_use (hstab _ (kind_mem hj (by simp))) ⟨by rw [hR.size]; exact Nat.le_refl _, fun k _ hk' _ => hR.far k (by omega)⟩ (fun b' e => by
              subst e
              have hne : b ≠ b' := pair_mem (R := fun (x y : Nat × Kind) => apartK x.2 y.2) (fun x y h => apartK_symm _ _ h) hapart (kind_mem hk (by simp)) (kind_mem hj (by simp)) (fun e' => by injection e' with e1; subst e1; rw [hk] at hj; cases hj)
              exact hR.far b' (Ne.symm hne)) g2⟩
        · rw [← sw', sw, hw] at hw'; cases hw'
      | alloc s T z n =>
        rw [hk] at hy
        rw [hy.2 w']
        have hsi := kind_tied htied hk
        have hLs : L s = false := hneg s hsi.2
        have hne_s : s ≠ i := fun e => by subst e; have := hsi.1; rw [hk] at this; cases this
        have hbw : Below w'.heap.size w' (w'.alloc (.cells z T)) := (Below.refl _ _).alloc (Nat.le_refl _) _
        refine ⟨by rw [put_defers, hd], by rw [put_size, hs], hon.next hbw, hnone _, updV β0 i (.pointer (some ⟨w'.heap.size, 0, none⟩)), fun j => ?_, fun β hβ hag => ?_⟩
        · by_cases e : j = i
          · subst e
            rw [hk]
            exact ⟨w'.heap.size, updV_here _ _ _, hon.size⟩
          · have := h0 j
            cases hkj : kindOf ks j with
            | alloc s' T' z' n' => rw [hkj] at this; obtain ⟨b', g1, g2⟩ := this; exact ⟨b', by rw [updV_far _ _ e]; exact g1, g2⟩
            | letterB f p F => rw [hkj] at this; show p _; rw [updV_far _ _ e]; exact this
            | _ => exact trivial
        · have hβi : β i = .pointer (some ⟨w'.heap.size, 0, none⟩) := by rw [hag i (updL_here _ _), updV_here]
          have hag' : ∀ j, L j = true → β j = β0 j := fun j hj => by
            have e : j ≠ i := fun e => by subst e; rw [hLi] at hj; cases hj
            rw [hag j (by rw [updL_far _ e]; exact hj), updV_far _ _ e]
          have hp := hP β hβ hag'
          obtain ⟨hrun', _⟩ := hV β hβ
          obtain ⟨se', sw'⟩ := hsame β hβ hag'
          rcases hrun' i o ho with ⟨_, hy'⟩ | ⟨hw', _, _⟩
          · rw [hk] at hy'
            refine ⟨hslot β _ hp (hy'.1.trans hβi), ?_, ?_, ?_, ?_, hp.fr.step hbw.size (fun p F e => by rw [hk] at e; cases e), fun j b' p F hj => (let ⟨g1, g2⟩ := hp.gr j b' p F hj; ⟨Nat.lt_of_lt_of_le g1 hbw.size, fun hL => (hbw.block b' g1).trans (g2 (updL_false hL).2)⟩), fun j b' hj => (let ⟨g1, g2, g3⟩ := hp.sm j b' hj; ⟨Nat.lt_of_lt_of_le g1 hbw.size, fun hL => (hbw.block b' g1).trans (g2 (fun k hk => (updL_false (hL k hk)).2)), (congrArg shp (hbw.block b' g1)).trans g3⟩)⟩
            · intro j b' T' old' new' hj
              rw [updL_far _ (fun e => by subst e; rw [hk] at hj; cases hj)]
              exact (hp.st j b' T' old' new' hj).next hbw
            · intro j s' T' z' n' hj hLj
              by_cases e : j = i
              · subst e
                rw [hk] at hj
                injection hj with e1 e2 e3 e4
                subst e1 e2 e3 e4
                refine ⟨_, hβi, hon.size, ?_⟩
                rw [updL_far _ hne_s, hLs]
                exact Blk.new w' T z
              · rw [updL_far _ e] at hLj
                obtain ⟨b', g1, g2, g3⟩ := hp.al j s' T' z' n' hj hLj
                rw [updL_far _ (fun e => by subst e; have := (kind_tied htied hj).1; rw [hk] at this; cases this)]
                exact ⟨b', g1, g2, g3.next hbw⟩
            · intro i' s1 T1 z1 n1 j s2 T2 z2 n2 h1 h2 hij hL1 hL2
              have hlt : ∀ (j : Nat) s T z n, kindOf ks j = .alloc s T z n → j ≠ i → updL L i j = true → β j ≠ β i := fun j s T z n hj e hL' => by
                rw [updL_far _ e] at hL'
                obtain ⟨b', g1, g2, g3⟩ := hp.al j s T z n hj hL'
                have := g3.lt
                rw [g1, hβi]
                intro e'
                injection e' with e'
                injection e' with e'
                injection e' with e'
                omega
              by_cases e : i' = i
              · subst e; exact Ne.symm (hlt j s2 T2 z2 n2 h2 (Ne.symm hij) hL2)
              · by_cases e2 : j = i
                · subst e2; exact hlt i' s1 T1 z1 n1 h1 e hL1
                · rw [updL_far _ e] at hL1
                  rw [updL_far _ e2] at hL2
                  exact hp.ne i' s1 T1 z1 n1 j s2 T2 z2 n2 h1 h2 hij hL1 hL2
            · intro j f p F hj hLj
              rw [updL_far _ (fun e => by subst e; rw [hk] at hj; cases hj)] at hLj
              obtain ⟨g1, g2⟩ := hp.lt j p F hj hLj
              exact ⟨g1, stab_use (hstab _ (kind_mem hj (by simp))) (Kept.of_below hbw) (fun b' e => by subst e; exact hbw.block b' (hp.gr j b' _ _ hj).1) g2⟩
          · rw [← sw', sw, hw] at hw'; cases hw'
      | init al =>
        rw [hk] at hy
        obtain ⟨T, z, n, hal⟩ := kind_tied2 htied hk
        have hLal : L al = true := hdep al (kind_tied htied hal).2
        have hbox : ∀ β, Part ks ops w V L β a w' → ∃ b, β al = .pointer (some ⟨b, 0, none⟩) ∧ w.heap.size ≤ b ∧ Blk w' b T z := fun β hp => by
          obtain ⟨b, g1, g2, g3⟩ := hp.al al i T z n hal hLal
          rw [hLi] at g3
          exact ⟨b, g1, g2, by simpa using g3⟩
        obtain ⟨b, hb1, hb2, hb3⟩ := hbox β0 (hP β0 h0 (fun _ _ => rfl))
        obtain ⟨w2, hr, hR0⟩ := hy.2 i T z n hal b w' hb1 (hfacts β0 h0 (fun _ _ => rfl)) hb3
        rw [hr]
        refine ⟨by rw [put_defers, hd], by rw [put_size, hs], ⟨hR0.os.trans hon.os, hR0.tape.trans hon.tape, hR0.output.trans hon.output, by rw [hR0.size]; exact hon.size, fun k hk' hS => (hR0.far k (by omega)).trans (hon.block k hk' hS)⟩, hnone undef, β0, h0, fun β hβ hag => ?_⟩
        have hag' := hagree β hag
        have hp := hP β hβ hag'
        have hβal : β al = .pointer (some ⟨b, 0, none⟩) := by rw [hag' al hLal]; exact hb1
        obtain ⟨hrun', _⟩ := hV β hβ
        obtain ⟨se', sw'⟩ := hsame β hβ hag'
        rcases hrun' i o ho with ⟨_, hy'⟩ | ⟨hw', _, _⟩
        · rw [hk] at hy'
          obtain ⟨w3, hr', hR⟩ := hy'.2 i T z n hal b w' hβal (hfacts β hβ hag') hb3
          rw [← se', se, hr] at hr'
          injection hr' with _ hr'
          subst hr'
          refine ⟨hslot β undef hp hy'.1, ?_, ?_, ?_, ?_, hp.fr.step (Nat.le_of_eq hR.size.symm) (fun p F e => by rw [hk] at e; cases e), fun j b' p F hj => by
            obtain ⟨g1, g2⟩ := hp.gr j b' p F hj
            have hlt : b' < w.heap.size := hstart _ (kind_mem hj (by simp))
            exact ⟨by rw [hR.size]; exact g1, fun hL => (hR.far b' (by omega)).trans (g2 (updL_false hL).2)⟩, fun j b' hj => by
            obtain ⟨g1, g2, g3⟩ := hp.sm j b' hj
            have hlt : b' < w.heap.size := hstart _ (kind_mem hj (by simp))
            exact ⟨by rw [hR.size]; exact g1, fun hL => (hR.far b' (by omega)).trans (g2 (fun k hk => (updL_false (hL k hk)).2)), (congrArg shp (hR.far b' (by omega))).trans g3⟩⟩
          · intro j b' T' old' new' hj
            rw [updL_far _ (fun e => by subst e; rw [hk] at hj; cases hj)]
            have := stlt j b' T' old' new' hj
            exact (hR.far b' (by omega)).trans (hp.st j b' T' old' new' hj)
          · intro j s' T' z' n' hj hLj
            have hji : j ≠ i := fun e => by subst e; rw [hk] at hj; cases hj
            rw [updL_far _ hji] at hLj
            by_cases e : j = al
            · subst e
              rw [hal] at hj
              injection hj with e1 e2 e3 e4
              subst e1 e2 e3 e4
              refine ⟨b, hβal, hb2, ?_⟩
              rw [updL_here, if_pos rfl]
              exact hR.here
            · obtain ⟨b', g1, g2, g3⟩ := hp.al j s' T' z' n' hj hLj
              have hbb : b' ≠ b := fun e' => hp.ne j s' T' z' n' al i T z n hj hal e hLj hLal (by rw [g1, hβal, e'])
              rw [updL_far _ (fun e' => by
                subst e'
                have := (kind_tied htied hj).1
                rw [hk] at this
                injection this with this
                exact e this.symm)]
              exact ⟨b', g1, g2, (hR.far b' hbb).trans g3⟩
          · intro i' s1 T1 z1 n1 j s2 T2 z2 n2 h1 h2 hij hL1 hL2
            rw [updL_far _ (fun e => by subst e; rw [hk] at h1; cases h1)] at hL1
            rw [updL_far _ (fun e => by subst e; rw [hk] at h2; cases h2)] at hL2
            exact hp.ne i' s1 T1 z1 n1 j s2 T2 z2 n2 h1 h2 hij hL1 hL2
          · intro j f p F hj hLj
            rw [updL_far _ (fun e => by subst e; rw [hk] at hj; cases hj)] at hLj
            obtain ⟨g1, g2⟩ := hp.lt j p F hj hLj
            refine ⟨g1, stab_use (hstab _ (kind_mem hj (by simp))) ⟨by rw [hR.size]; exact Nat.le_refl _, fun k _ _ hno => hR.far k (fun e => ?_)⟩ (fun b' e => by subst e; have hlt : b' < w.heap.size := hstart _ (kind_mem hj (by simp)); exact hR.far b' (by omega)) g2⟩
            subst e
            exact hno z T (0, 0) hb3 (by unfold boxes; exact List.mem_filterMap.2 ⟨_, kind_mem hal (by simp), rfl⟩)
        · rw [← sw', sw, hw] at hw'; cases hw'
      | smear b =>
        rw [hk] at hy
        obtain ⟨w2, hr, hg, hsh⟩ := hy.2 w' (hfacts β0 h0 (fun _ _ => rfl))
        rw [hr]
        have hbs : b ∈ stores ks := List.mem_filterMap.2 ⟨_, kind_mem hk (by simp), rfl⟩
        have hbl : b < w.heap.size := hstart _ (kind_mem hk (by simp))
        have ap : ∀ j k', kindOf ks j = k' → k' ≠ .val → j ≠ i → apartK (.smear b) k' := fun j k' hj hv hji =>
          pair_mem (R := fun (x y : Nat × Kind) => apartK x.2 y.2) (fun x y h => apartK_symm _ _ h) hapart (kind_mem hk (by simp)) (kind_mem hj hv) (fun e' => hji (by injection e' with e1; exact e1.symm))
        have keep : ∀ k, k < w'.heap.size → k ≠ b → w2.heap[k]? = w'.heap[k]? := fun k hk' hne => hg.block k hk' (fun e => hne (Option.some.inj e))
        refine ⟨by rw [put_defers, hd], by rw [put_size, hs], ⟨hg.os.trans hon.os, hg.tape.trans hon.tape, hg.output.trans hon.output, Nat.le_trans hon.size hg.size, fun k hk' hS => (keep k (Nat.lt_of_lt_of_le hk' hon.size) (fun e => hS (e ▸ hbs))).trans (hon.block k hk' hS)⟩, hnone undef, β0, h0, fun β hβ hag => ?_⟩
        have hag' := hagree β hag
        have hp := hP β hβ hag'
        obtain ⟨hrun', _⟩ := hV β hβ
        obtain ⟨se', sw'⟩ := hsame β hβ hag'
        rcases hrun' i o ho with ⟨_, hy'⟩ | ⟨hw', _, _⟩
        · rw [hk] at hy'
          refine ⟨hslot β undef hp hy'.1, ?_, ?_, ?_, ?_, hp.fr.step hg.size (fun p F e => by rw [hk] at e; cases e), ?_, ?_⟩
          · intro j b' T old new hj
            have hji : j ≠ i := fun e => by subst e; rw [hk] at hj; cases hj
            rw [updL_far _ hji]
            have hne : b ≠ b' := ap j _ hj (by simp) hji
            have h3 := hp.st j b' T old new hj
            exact (keep b' (Blk.lt h3) (Ne.symm hne)).trans h3
          · intro j s T z n hj hLj
            have e : j ≠ i := fun e => by subst e; rw [hk] at hj; cases hj
            have e2 : s ≠ i := fun e => by subst e; have := (kind_tied htied hj).1; rw [hk] at this; cases this
            rw [updL_far _ e] at hLj
            rw [updL_far _ e2]
            obtain ⟨b', g1, g2, g3⟩ := hp.al j s T z n hj hLj
            exact ⟨b', g1, g2, (keep b' g3.lt (by omega)).trans g3⟩
          · intro i' s1 T1 z1 n1 j s2 T2 z2 n2 h1 h2 hij hL1 hL2
            rw [updL_far _ (fun e => by subst e; rw [hk] at h1; cases h1)] at hL1
            rw [updL_far _ (fun e => by subst e; rw [hk] at h2; cases h2)] at hL2
            exact hp.ne i' s1 T1 z1 n1 j s2 T2 z2 n2 h1 h2 hij hL1 hL2
          · intro j f p F hj hLj
            have hji : j ≠ i := fun e => by subst e; rw [hk] at hj; cases hj
            rw [updL_far _ hji] at hLj
            obtain ⟨g1, g2⟩ := hp.lt j p F hj hLj
            refine ⟨g1, stab_use (hstab _ (kind_mem hj (by simp))) ⟨hg.size, fun k hk' hge _ => keep k hk' (by omega)⟩ (fun b' e => ?_) g2⟩
            subst e
            have hne : b ≠ b' := ap j _ hj (by simp) hji
            exact keep b' (hp.gr j b' p F hj).1 (Ne.symm hne)
          · intro j b' p F hj
            have hji : j ≠ i := fun e => by subst e; rw [hk] at hj; cases hj
            obtain ⟨g1, g2⟩ := hp.gr j b' p F hj
            have hne : b ≠ b' := ap j _ hj (by simp) hji
            exact ⟨Nat.lt_of_lt_of_le g1 hg.size, fun hL => (keep b' g1 (Ne.symm hne)).trans (g2 (updL_false hL).2)⟩
          · intro j b' hj
            obtain ⟨g1, g2, g3⟩ := hp.sm j b' hj
            refine ⟨Nat.lt_of_lt_of_le g1 hg.size, fun hL => ?_, ?_⟩
            · by_cases e : b' = b
              · subst e
                have := hL i hk
                rw [updL_here] at this
                cases this
              · exact (keep b' g1 e).trans (g2 (fun k hk => (updL_false (hL k hk)).2))
            · by_cases e : b' = b
              · subst e
                exact hsh.trans g3
              · exact (congrArg shp (keep b' g1 e)).trans g3
        · rw [← sw', sw, hw] at hw'; cases hw'
      | letterB fr p F =>
        rw [hk] at hy
        rcases hy.2 w' (hfacts β0 h0 (fun _ _ => rfl)) with ⟨f, args, hr, hc⟩ | ⟨u, w2, hr, hpu, hFu, hb, hfr⟩
        · rw [hr]
          refine Calls.mono hc fun e w2 ⟨u, he, hpu, hFu, hb, hfr⟩ => ?_
          subst he
          refine ⟨by rw [put_defers, hd], by rw [put_size, hs], hon.next hb, hnone _, updV β0 i u, fun j => ?_, fun β hβ hag => ?_⟩
          · by_cases e : j = i
            · subst e
              rw [hk]
              show p _
              rw [updV_here]
              exact hpu
            · have := h0 j
              cases hkj : kindOf ks j with
              | alloc s' T' z' n' => rw [hkj] at this; obtain ⟨b', g1, g2⟩ := this; exact ⟨b', by rw [updV_far _ _ e]; exact g1, g2⟩
              | letterB f' p' F' => rw [hkj] at this; show p' _; rw [updV_far _ _ e]; exact this
              | _ => exact trivial
          · have hβi : β i = u := by rw [hag i (updL_here _ _), updV_here]
            have hag' : ∀ j, L j = true → β j = β0 j := fun j hj => by
              have e : j ≠ i := fun e => by subst e; rw [hLi] at hj; cases hj
              rw [hag j (by rw [updL_far _ e]; exact hj), updV_far _ _ e]
            have hp := hP β hβ hag'
            obtain ⟨hrun', _⟩ := hV β hβ
            obtain ⟨_, sw'⟩ := hsame β hβ hag'
            rcases hrun' i o ho with ⟨_, hy'⟩ | ⟨hw', _, _⟩
            · rw [hk] at hy'
              refine ⟨hslot β _ hp (hy'.1.trans hβi), ?_, ?_, ?_, ?_, freshStep hp.fr hb.size hk (by rw [hβi]; exact hfr), fun j b' q G hj => (let ⟨g1, g2⟩ := hp.gr j b' q G hj; ⟨Nat.lt_of_lt_of_le g1 hb.size, fun hL => (hb.block b' g1).trans (g2 (updL_false hL).2)⟩), fun j b' hj => (let ⟨g1, g2, g3⟩ := hp.sm j b' hj; ⟨Nat.lt_of_lt_of_le g1 hb.size, fun hL => (hb.block b' g1).trans (g2 (fun k hk => (updL_false (hL k hk)).2)), (congrArg shp (hb.block b' g1)).trans g3⟩)⟩
              · intro j b' T' old' new' hj
                rw [updL_far _ (fun e => by subst e; rw [hk] at hj; cases hj)]
                exact (hp.st j b' T' old' new' hj).next hb
              · intro j s' T' z' n' hj hLj
                rw [updL_far _ (fun e => by subst e; rw [hk] at hj; cases hj)] at hLj
                obtain ⟨b', g1, g2, g3⟩ := hp.al j s' T' z' n' hj hLj
                rw [updL_far _ (fun e => by subst e; have := (kind_tied htied hj).1; rw [hk] at this; cases this)]
                exact ⟨b', g1, g2, g3.next hb⟩
              · intro i' s1 T1 z1 n1 j s2 T2 z2 n2 h1 h2 hij hL1 hL2
                rw [updL_far _ (fun e => by subst e; rw [hk] at h1; cases h1)] at hL1
                rw [updL_far _ (fun e => by subst e; rw [hk] at h2; cases h2)] at hL2
                exact hp.ne i' s1 T1 z1 n1 j s2 T2 z2 n2 h1 h2 hij hL1 hL2
              · intro j f' p' F' hj hLj
                by_cases e : j = i
                · subst e
                  rw [hk] at hj
                  injection hj with e0 e1 e2
                  subst e0 e1 e2
                  rw [hβi]
                  exact ⟨hpu, hFu⟩
                · rw [updL_far _ e] at hLj
                  obtain ⟨g1, g2⟩ := hp.lt j p' F' hj hLj
                  exact ⟨g1, stab_use (hstab _ (kind_mem hj (by simp))) (Kept.of_below hb) (fun b' e => by subst e; exact hb.block b' (hp.gr j b' _ _ hj).1) g2⟩
            · rw [← sw', sw, hw] at hw'; cases hw'
        · rw [hr]
          have hM : MildK ks ops i w w' w2 := by
            rcases hb with hb | hb | ⟨b, eb, hb⟩
            · exact ⟨fun h => h.next hb, fun j b T old new _ cs h => h.next hb, fun j s T z n _ b cs _ h => h.next hb, fun j f p F hj _ _ v h => stab_use (hstab _ (kind_mem hj (by simp))) (Kept.of_below hb) (fun b' e => by subst e; have hlt : b' < w.heap.size := hstart _ (kind_mem hj (by simp)); exact hb.block b' (Nat.lt_of_lt_of_le hlt hon.size)) h, hb.size, fun j b p F _ _ hlt => hb.block b hlt, fun j b _ hlt => hb.block b hlt⟩
            · exact hb
            · subst eb
              have hbs : b ∈ stores ks := List.mem_filterMap.2 ⟨_, kind_mem hk (by simp), rfl⟩
              have hbl : b < w.heap.size := hstart _ (kind_mem hk (by simp))
              have ap : ∀ j k', kindOf ks j = k' → k' ≠ .val → j ≠ i → apartK (.letterB (.grow b) p F) k' := fun j k' hj hv hji =>
                pair_mem (R := fun (x y : Nat × Kind) => apartK x.2 y.2) (fun x y h => apartK_symm _ _ h) hapart (kind_mem hk (by simp)) (kind_mem hj hv) (fun e' => hji (by injection e' with e1; exact e1.symm))
              refine ⟨fun h => ⟨hb.os.trans h.os, hb.tape.trans h.tape, hb.output.trans h.output, Nat.le_trans h.size hb.size, fun k hk' hS => (hb.block k (Nat.lt_of_lt_of_le hk' h.size) (fun e => by injection e with e; exact hS (e ▸ hbs))).trans (h.block k hk' hS)⟩, ?_, ?_, ?_, hb.size, ?_, ?_⟩
              · intro j b' T old new hj cs h
                have hne : b ≠ b' := ap j _ hj (by simp) (fun e => by subst e; rw [hk] at hj; cases hj)
                exact (hb.block b' h.lt (fun e => hne (by injection e with e; exact e.symm))).trans h
              · intro j s T z n _ b' cs hge h
                exact (hb.block b' h.lt (fun e => by injection e with e; omega)).trans h
              · intro j f q G hj hji _ v h
                exact stab_use (hstab _ (kind_mem hj (by simp))) ⟨hb.size, fun k hk' hge _ => hb.block k hk' (fun e => by injection e with e; omega)⟩ (fun b' e => by
                  subst e
                  have hlt : b' < w.heap.size := hstart _ (kind_mem hj (by simp))
                  have hne : b ≠ b' := ap j _ hj (by simp) hji
                  exact hb.block b' (Nat.lt_of_lt_of_le hlt hon.size) (fun e => hne (by injection e with e; exact e.symm))) h
              · intro j b' q G hj hji hlt
                have hne : b ≠ b' := ap j _ hj (by simp) hji
                exact hb.block b' hlt (fun e => hne (by injection e with e; exact e.symm))
              · intro j b' hj hlt
                have hne : b ≠ b' := ap j _ hj (by simp) (fun e => by subst e; exact absurd (hk.symm.trans hj) (by simp))
                exact hb.block b' hlt (fun e => hne (by injection e with e; exact e.symm))
          refine ⟨by rw [put_defers, hd], by rw [put_size, hs], hM.only hon, hnone _, updV β0 i u, fun j => ?_, fun β hβ hag => ?_⟩
          · by_cases e : j = i
            · subst e
              rw [hk]
              show p _
              rw [updV_here]
              exact hpu
            · have := h0 j
              cases hkj : kindOf ks j with
              | alloc s' T' z' n' => rw [hkj] at this; obtain ⟨b', g1, g2⟩ := this; exact ⟨b', by rw [updV_far _ _ e]; exact g1, g2⟩
              | letterB f' p' F' => rw [hkj] at this; show p' _; rw [updV_far _ _ e]; exact this
              | _ => exact trivial
          · have hβi : β i = u := by rw [hag i (updL_here _ _), updV_here]
            have hag' : ∀ j, L j = true → β j = β0 j := fun j hj => by
              have e : j ≠ i := fun e => by subst e; rw [hLi] at hj; cases hj
              rw [hag j (by rw [updL_far _ e]; exact hj), updV_far _ _ e]
            have hp := hP β hβ hag'
            obtain ⟨hrun', _⟩ := hV β hβ
            obtain ⟨_, sw'⟩ := hsame β hβ hag'
            rcases hrun' i o ho with ⟨_, hy'⟩ | ⟨hw', _, _⟩
            · rw [hk] at hy'
              refine ⟨hslot β _ hp (hy'.1.trans hβi), ?_, ?_, ?_, ?_, freshStep hp.fr hM.size hk (by rw [hβi]; exact hfr), fun j b' q G hj => (let ⟨g1, g2⟩ := hp.gr j b' q G hj; ⟨Nat.lt_of_lt_of_le g1 hM.size, fun hL => (hM.gr j b' q G hj (updL_false hL).1 g1).trans (g2 (updL_false hL).2)⟩), fun j b' hj => (let ⟨g1, g2, g3⟩ := hp.sm j b' hj; ⟨Nat.lt_of_lt_of_le g1 hM.size, fun hL => (hM.sm j b' hj g1).trans (g2 (fun k hk => (updL_false (hL k hk)).2)), (congrArg shp (hM.sm j b' hj g1)).trans g3⟩)⟩
              · intro j b' T' old' new' hj
                rw [updL_far _ (fun e => by subst e; rw [hk] at hj; cases hj)]
                exact hM.st j b' T' old' new' hj _ (by have := hp.st j b' T' old' new' hj; exact this)
              · intro j s' T' z' n' hj hLj
                rw [updL_far _ (fun e => by subst e; rw [hk] at hj; cases hj)] at hLj
                obtain ⟨b', g1, g2, g3⟩ := hp.al j s' T' z' n' hj hLj
                rw [updL_far _ (fun e => by subst e; have := (kind_tied htied hj).1; rw [hk] at this; cases this)]
                exact ⟨b', g1, g2, hM.al j s' T' z' n' hj _ _ g2 g3⟩
              · intro i' s1 T1 z1 n1 j s2 T2 z2 n2 h1 h2 hij hL1 hL2
                rw [updL_far _ (fun e => by subst e; rw [hk] at h1; cases h1)] at hL1
                rw [updL_far _ (fun e => by subst e; rw [hk] at h2; cases h2)] at hL2
                exact hp.ne i' s1 T1 z1 n1 j s2 T2 z2 n2 h1 h2 hij hL1 hL2
              · intro j f' p' F' hj hLj
                by_cases e : j = i
                · subst e
                  rw [hk] at hj
                  injection hj with e0 e1 e2
                  subst e0 e1 e2
                  rw [hβi]
                  exact ⟨hpu, hFu⟩
                · rw [updL_far _ e] at hLj
                  obtain ⟨g1, g2⟩ := hp.lt j p' F' hj hLj
                  exact ⟨g1, hM.lt j p' F' hj e (by
                    rcases hd' : dep ops j i with _ | _
                    · rfl
                    · rw [hneg j hd'] at hLj; cases hLj) _ g2⟩
            · rw [← sw', sw, hw] at hw'; cases hw'
    · rw [if_neg (by rw [sw, hw]; simp)]
      refine grown undef w' (.inl hk) (Below.refl _ _) fun β hβ hag => ?_
      obtain ⟨hrun', _⟩ := hV β hβ
      obtain ⟨_, sw'⟩ := hsame β hβ hag
      rcases hrun' i o ho with ⟨hw', _⟩ | ⟨_, _, hv'⟩
      · rw [← sw', sw, hw] at hw'; cases hw'
      · exact hv'
end Go.Proofs.YtegcebdnofnigaaDoor

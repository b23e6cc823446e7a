/-
  The functions' table: its parts, made by the program.
-/
import Derived.Test.YtegcebdnofnigaaDoorGatA
import Derived.Deep.Upon
import Derived.WalkKit
import Derived.Lib.Hide
import Derived.Deep.DeepCutAuto
namespace Go.Proofs.YtegcebdnofnigaaDoor
open Go Go.RowKit

theorem info_fc : (Tryd.prog.info? 34).map (fun i => (i.zero, i.size, i.bytes)) = some (some (.agg #[.int .i64 0, .string ⟨#[]⟩, .string ⟨#[]⟩, .int .i64 0]), 4, 48) := by kernel_rfl
set_option maxRecDepth 100000 in
/-- One list behind the other. -/
theorem wpList_appF {ops : Array Oper} {rest : List Oper} {o : Oper} {a : Act} {Q : Exit → Act → World → Prop} {w : World} (hgd : o.guard = none) (s x : Operand)
    (ho : o.op = .call { callee := .builtin .append, args := #[s, x], argTypes := #[41, 41] }) (base : Nat) (vb vh : Value) (bf bh : List Fct) (hs : a.eval s = vb) (hx : a.eval x = vh)
    (hb : OFc w base vb bf) (hh : OFc w base vh bh) (hl : bf.length + bh.length ≤ 1000) (hbase : base ≤ w.heap.size)
    (h : ∀ v' w', OFc w' base v' (bf ++ bh) → Below base w w' → wpList Tryd.prog ops Q rest (a.put o.dst v') w') : wpList Tryd.prog ops Q (o :: rest) a w := by
  obtain ⟨i, hi, hz, hsize, hby⟩ := info_parts info_fc
  rcases hh.2 with ⟨rfl, hn⟩ | ⟨g, cap, cur, rfl, hg, hh3, hh4, hh5, hh6, hh7⟩
  · have hn2 : bh = [] := List.eq_nil_of_length_eq_zero hn
    subst hn2
    rw [List.append_nil] at h
    refine wpList_plain hgd fun K hK => ?_
    have hsrc : Src Tryd.prog i.size 41 (.slice none 0 0) 0 [] w := Src.ofNil _ Tryd.underlying41 0
    have hrun : (Builtin.append_ #[41, 41] o.type #[vb, .slice none 0 0]).run Tryd.prog w = .ok vb w := by
      rcases hb.2 with ⟨rfl, _⟩ | ⟨g, cap, cur, rfl, _, _, hle, _⟩
      · exact run_append_nothing w _ _ _ _ i Tryd.underlying41 hi none 0 0 (Nat.le_refl _) _ hsrc
      · exact run_append_nothing w _ _ _ _ i Tryd.underlying41 hi (some ⟨g, 0, none⟩) _ cap hle _ hsrc
    unfold Oper.wp execOp
    simp only [ho, resolve, invoke, builtin, Sem.run_bind, Sem.run_pure, Result.andThen_ok, List.map_toArray, List.map_cons, List.map_nil, hs, hx, hrun]
    exact hK _ _ (h vb w hb (Below.refl _ _))
  · obtain ⟨A, c, e, hr⟩ := OFc.reads hh
    injection e with e1 e2 e3
    subst e1
    refine wpList_append_own _ hgd s x _ ho base _ i _ 4 48 Tryd.underlying41 hi hz hsize hby rfl (by decide) vb bf.length _ hs hb ⟨g, 0, none⟩ bh.length cap (bh.flatMap Fct.cells) hx hh.1 (fun j u hj => ?_) (fun u hu => ?_) (by unfold maxLen; omega) (by omega) hbase (fun v' w' h2 h3 _ => h v' w' ?_ ?_)
    · have hpos : 0 < bh.length := by
        rcases Nat.eq_zero_or_pos bh.length with h0 | h0
        · have : bh = [] := List.eq_nil_of_length_eq_zero h0
          subst this
          simp at hj
        · exact h0
      obtain ⟨ad, e, _, hc⟩ := hr.2 hpos
      injection e with e
      subst e
      exact hc j u hj
    · obtain ⟨m, _, hm⟩ := List.mem_flatMap.1 hu
      simp [Fct.cells] at hm
      rcases hm with rfl | rfl | rfl | rfl <;> rfl
    · unfold OFc
      rw [List.length_append, List.flatMap_append]
      exact h2
    · exact below_own hb hbase (Below.refl _ _) h3
/-- Operations that give values, run one behind the other. -/
def runVs (P : Program) : List Oper → Act → World → Option (Act × World)
  | [], a, w => some (a, w)
  | o :: l, a, w => match o.guard, (execOp a.eval o).run P w with
    | none, .ok (.value v) w' => runVs P l (a.put o.dst v) w'
    | _, _ => none
theorem runVs_sound {P : Program} {ops : Array Oper} {Q : Exit → Act → World → Prop} : ∀ (l : List Oper) (a : Act) (w : World) (a' : Act) (w' : World), runVs P l a w = some (a', w') → Q .normal a' w' → wpList P ops Q l a w
  | [], a, w, a', w', h, hq => by
    unfold runVs at h
    injection h with h
    injection h with h1 h2
    subst h1 h2
    exact wpList_nil hq
  | o :: l, a, w, a', w', h, hq => by
    unfold runVs at h
    split at h
    · rename_i v w2 hg hr
      refine wpList_plain hg fun K hK => ?_
      unfold Oper.wp
      rw [hr]
      exact hK _ _ (runVs_sound l _ _ a' w' h hq)
    · cases h
set_option maxRecDepth 100000 in
set_option maxHeartbeats 8000000 in
theorem ctl_any (w : World) : Calls Tryd.prog 16 #[] w fun e w' => ∃ v, e = .returned v ∧ OFc w' w.heap.size v ctlF ∧ Below w.heap.size w w' := by
  have HN := Lib.hid (ofc_new w ctlF 11 _ rfl rfl (by decide))
  have HB := Lib.hid (fun o => show Below w.heap.size w (w.alloc o) from (Below.refl _ _).alloc (Nat.le_refl _) o)
  go_enter Tryd.func16, Tryd.ntmps16
  go_upto_region 1 with fail
  refine wp_region_list (runVs_sound _ _ _ ⟨(.slice (some ⟨w.heap.size, 0, none⟩) 11 11 :: (ctlF.map Fct.val ++ [.slice (some ⟨w.heap.size, 0, none⟩) 11 11])).toArray, []⟩ (w.alloc (.cells (ctlF.flatMap Fct.cells).toArray 34)) (by kernel_rfl) ?_)
  simp only [Exit.then]
  go_step
  go_step
  refine bodyPost_ret (results_tmp rfl _ _ _) rfl ?_
  exact ⟨_, rfl, HN.out, HB.out _⟩
set_option maxRecDepth 100000 in
set_option maxHeartbeats 8000000 in
theorem esc_any (w : World) : Calls Tryd.prog 17 #[] w fun e w' => ∃ v, e = .returned v ∧ OFc w' w.heap.size v escF ∧ Below w.heap.size w w' := by
  have HN := Lib.hid (ofc_new w escF 26 _ rfl rfl (by decide))
  have HB := Lib.hid (fun o => show Below w.heap.size w (w.alloc o) from (Below.refl _ _).alloc (Nat.le_refl _) o)
  go_enter Tryd.func17, Tryd.ntmps17
  go_upto_region 1 with fail
  refine wp_region_list (runVs_sound _ _ _ ⟨(.slice (some ⟨w.heap.size, 0, none⟩) 26 26 :: (escF.map Fct.val ++ [.slice (some ⟨w.heap.size, 0, none⟩) 26 26])).toArray, []⟩ (w.alloc (.cells (escF.flatMap Fct.cells).toArray 34)) (by kernel_rfl) ?_)
  simp only [Exit.then]
  go_step
  go_step
  refine bodyPost_ret (results_tmp rfl _ _ _) rfl ?_
  exact ⟨_, rfl, HN.out, HB.out _⟩
set_option maxRecDepth 100000 in
set_option maxHeartbeats 8000000 in
theorem sho_any (w : World) : Calls Tryd.prog 18 #[] w fun e w' => ∃ v, e = .returned v ∧ OFc w' w.heap.size v shoF ∧ Below w.heap.size w w' := by
  have HN := Lib.hid (ofc_new w shoF 43 _ rfl rfl (by decide))
  have HB := Lib.hid (fun o => show Below w.heap.size w (w.alloc o) from (Below.refl _ _).alloc (Nat.le_refl _) o)
  go_enter Tryd.func18, Tryd.ntmps18
  go_upto_region 1 with fail
  refine wp_region_list (runVs_sound _ _ _ ⟨(.slice (some ⟨w.heap.size, 0, none⟩) 43 43 :: (shoF.map Fct.val ++ [.slice (some ⟨w.heap.size, 0, none⟩) 43 43])).toArray, []⟩ (w.alloc (.cells (shoF.flatMap Fct.cells).toArray 34)) (by kernel_rfl) ?_)
  simp only [Exit.then]
  go_step
  go_step
  refine bodyPost_ret (results_tmp rfl _ _ _) rfl ?_
  exact ⟨_, rfl, HN.out, HB.out _⟩
set_option maxRecDepth 100000 in
set_option maxHeartbeats 8000000 in
theorem lon_any (w : World) : Calls Tryd.prog 19 #[] w fun e w' => ∃ v, e = .returned v ∧ OFc w' w.heap.size v lonF ∧ Below w.heap.size w w' := by
  have HN := Lib.hid (ofc_new w lonF 26 _ rfl rfl (by decide))
  have HB := Lib.hid (fun o => show Below w.heap.size w (w.alloc o) from (Below.refl _ _).alloc (Nat.le_refl _) o)
  go_enter Tryd.func19, Tryd.ntmps19
  go_upto_region 1 with fail
  refine wp_region_list (runVs_sound _ _ _ ⟨(.slice (some ⟨w.heap.size, 0, none⟩) 26 26 :: (lonF.map Fct.val ++ [.slice (some ⟨w.heap.size, 0, none⟩) 26 26])).toArray, []⟩ (w.alloc (.cells (lonF.flatMap Fct.cells).toArray 34)) (by kernel_rfl) ?_)
  simp only [Exit.then]
  go_step
  go_step
  refine bodyPost_ret (results_tmp rfl _ _ _) rfl ?_
  exact ⟨_, rfl, HN.out, HB.out _⟩
set_option maxRecDepth 100000 in
set_option maxHeartbeats 8000000 in
theorem dev_any (w : World) : Calls Tryd.prog 20 #[] w fun e w' => ∃ v, e = .returned v ∧ OFc w' w.heap.size v devF ∧ Below w.heap.size w w' := by
  have HN := Lib.hid (ofc_new w devF 5 _ rfl rfl (by decide))
  have HB := Lib.hid (fun o => show Below w.heap.size w (w.alloc o) from (Below.refl _ _).alloc (Nat.le_refl _) o)
  go_enter Tryd.func20, Tryd.ntmps20
  go_upto_region 1 with fail
  refine wp_region_list (runVs_sound _ _ _ ⟨(.slice (some ⟨w.heap.size, 0, none⟩) 5 5 :: (devF.map Fct.val ++ [.slice (some ⟨w.heap.size, 0, none⟩) 5 5])).toArray, []⟩ (w.alloc (.cells (devF.flatMap Fct.cells).toArray 34)) (by kernel_rfl) ?_)
  simp only [Exit.then]
  go_step
  go_step
  refine bodyPost_ret (results_tmp rfl _ _ _) rfl ?_
  exact ⟨_, rfl, HN.out, HB.out _⟩
set_option maxRecDepth 100000 in
set_option maxHeartbeats 4000000 in
theorem factsOf_any (k : Nat) (hk : 2 ≤ k ∧ k ≤ 5) (w : World) : Calls Tryd.prog 12 #[.int .i64 k] w fun e w' => ∃ v, e = .returned v ∧ OFc w' w.heap.size v (fkF k) ∧ Below w.heap.size w w' := by
  have H1 := Lib.hid (fun W => ctl_any W)
  have H2 := Lib.hid (fun W => esc_any W)
  have H3 := Lib.hid (fun W => sho_any W)
  have H4 := Lib.hid (fun W => lon_any W)
  have H5 := Lib.hid (fun W => dev_any W)
  rcases (by omega : k = 2 ∨ k = 3 ∨ k = 4 ∨ k = 5) with rfl | rfl | rfl | rfl
  · rw [show fkF 2 = ctlF from rfl]
    generalize ctlF = l at *
    go_enter Tryd.func12, Tryd.ntmps12
    go_wp2_with fail
    refine (H1.out _).mono ?_
    rintro e w1 ⟨v, rfl, ho, hb⟩
    have HO := Lib.hid ho
    have HB := Lib.hid hb
    clear ho hb H1 H2 H3 H4 H5
    go_wp2_with fail
    go_ret
    exact ⟨v, rfl, HO.out, HB.out⟩
  · rw [show fkF 3 = escF from rfl]
    generalize escF = l at *
    go_enter Tryd.func12, Tryd.ntmps12
    go_wp2_with fail
    refine (H2.out _).mono ?_
    rintro e w1 ⟨v, rfl, ho, hb⟩
    have HO := Lib.hid ho
    have HB := Lib.hid hb
    clear ho hb H1 H2 H3 H4 H5
    go_wp2_with fail
    go_ret
    exact ⟨v, rfl, HO.out, HB.out⟩
  · rw [show fkF 4 = shoF ++ lonF from rfl]
    have hl : shoF.length + lonF.length ≤ 1000 := by decide
    generalize shoF = l at *
    generalize lonF = r at *
    go_enter Tryd.func12, Tryd.ntmps12
    go_wp2_with fail
    refine (H3.out _).mono ?_
    rintro e w1 ⟨v, rfl, ho, hb⟩
    have HO := Lib.hid ho
    have HB := Lib.hid hb
    clear ho hb
    go_wp2_with fail
    refine (H4.out _).mono ?_
    rintro e w2 ⟨u, rfl, ho2, hb2⟩
    have HO1 := Lib.hid (HO.out.next hb2)
    have HO2 := Lib.hid (ho2.more HB.out.size)
    have HB2 := Lib.hid (HB.out.trans (hb2.mono HB.out.size))
    clear ho2 hb2 H1 H2 H3 H4 H5 HO
    go_wp2_with (at_builtin; refine wpList_appF rfl _ _ rfl w.heap.size v u l r rfl rfl HO1.out HO2.out (by omega) HB2.out.size ?_; intro v9 w9 hown9 hb9)
    go_ret
    exact ⟨v9, rfl, hown9, HB2.out.trans hb9⟩
  · rw [show fkF 5 = devF from rfl]
    generalize devF = l at *
    go_enter Tryd.func12, Tryd.ntmps12
    go_wp2_with fail
    refine (H5.out _).mono ?_
    rintro e w1 ⟨v, rfl, ho, hb⟩
    have HO := Lib.hid ho
    have HB := Lib.hid hb
    clear ho hb H1 H2 H3 H4 H5
    go_wp2_with fail
    go_ret
    exact ⟨v, rfl, HO.out, HB.out⟩
end Go.Proofs.YtegcebdnofnigaaDoor

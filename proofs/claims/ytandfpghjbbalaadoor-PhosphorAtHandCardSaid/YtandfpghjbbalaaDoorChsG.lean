/-
  The reference's two tables in memory: an array of constants that is built, made, stored, and looked into.
-/
import Derived.Test.YtandfpghjbbalaaDoorChsF
import Derived.Laws.Tables
import Derived.Deep.WholeRow
import Derived.Deep.CutBlock
import Derived.Deep.DeepCutAuto
namespace Go.Proofs.YtandfpghjbbalaaDoor
open Go Go.RowKit

section
variable {P : Program} {ops : Array Oper} {rest : List Oper} {o : Oper} {a : Act} {w : World} {Q : Exit → Act → World → Prop}
theorem wpList_build (hgd : o.guard = none) (t : TypeId) (ps : Array (Nat × Value)) (ho : o.op = .build t (ps.map fun p => (p.1, Operand.const p.2))) (cells : Array Value) (h : P.built t ps.toList = some cells)
    (hk : wpList P ops Q rest (a.put o.dst (.agg cells)) w) : wpList P ops Q (o :: rest) a w :=
  wpList_plain hgd fun _ hK => by
    have e : ((ps.map fun p => (p.1, Operand.const p.2)).map fun (x : Nat × Operand) => (x.1, a.eval x.2)) = ps := by
      rw [Array.map_map]
      have : ((fun (x : Nat × Operand) => (x.1, a.eval x.2)) ∘ fun (p : Nat × Value) => (p.1, Operand.const p.2)) = id := by funext p; rfl
      rw [this, Array.map_id]
    unfold Oper.wp execOp
    simp only [ho]
    rw [show ((ps.map fun p => (p.1, Operand.const p.2)).map fun (x : Nat × Operand) => match x with | (i, x) => (i, a.eval x)) = ps from e]
    simp only [Sem.run_bind, run_build w t ps cells h, Result.andThen_ok, Sem.run_pure]
    exact hK _ _ hk
theorem wpList_new (hgd : o.guard = none) (t : TypeId) (z : Array Value) (ho : o.op = .alloc t) (hz : ∀ w, (zeroValue t).run P w = .ok (.agg z) w)
    (hk : wpList P ops Q rest (a.put o.dst (.pointer (some ⟨w.heap.size, 0, none⟩))) (w.alloc (.cells z t))) : wpList P ops Q (o :: rest) a w :=
  wpList_plain hgd fun _ hK => by
    unfold Oper.wp execOp
    simp only [ho, Instr.alloc, Sem.run_bind, hz, Result.andThen_ok]
    refine hK _ _ ?_
    simpa [newVar, newRow, Value.cells] using hk
theorem wpList_fill (hgd : o.guard = none) (t : TypeId) (c c' : Array Value) (x y : Operand) (ho : o.op = .store t x y) (hx : a.eval x = .pointer (some ⟨w.heap.size, 0, none⟩)) (hy : a.eval y = .agg c')
    (hi : (P.info? t).map (·.size) = some c'.size) (hs : c.size = c'.size) (h1 : c'.all (·.oneCell') = true) (hk : wpList P ops Q rest (a.put o.dst undef) (w.alloc (.cells c' t))) : wpList P ops Q (o :: rest) a (w.alloc (.cells c t)) :=
  wpList_plain hgd fun _ hK => by
    unfold Oper.wp execOp
    simp only [ho, hx, hy, Sem.run_bind, run_storeAt_new w t c c' hi hs h1, Result.andThen_ok, Sem.run_pure]
    exact hK _ _ hk
end
theorem cell_new (w : World) (cs : Array Value) (t : TypeId) (j : Nat) (v : Value) (h : cs[j]? = some v) : (w.alloc (.cells cs t)).cell? ⟨w.heap.size, j, none⟩ = some v := by
  rw [(Blk.new w t _).cell j]
  exact h
def spcA : Array Value := #[.int .i64 32, .int .i64 9670, .int .i64 9618, .int .i64 9225, .int .i64 9228, .int .i64 9229, .int .i64 9226, .int .i64 176, .int .i64 177, .int .i64 9252, .int .i64 9227, .int .i64 9496, .int .i64 9488, .int .i64 9484, .int .i64 9492, .int .i64 9532, .int .i64 9146, .int .i64 9147, .int .i64 9472, .int .i64 9148, .int .i64 9149, .int .i64 9500, .int .i64 9508, .int .i64 9524, .int .i64 9516, .int .i64 9474, .int .i64 8804, .int .i64 8805, .int .i64 960, .int .i64 8800, .int .i64 163, .int .i64 183]
def spcP : Array (Nat × Value) := #[(0, .int .i64 32), (1, .int .i64 9670), (2, .int .i64 9618), (3, .int .i64 9225), (4, .int .i64 9228), (5, .int .i64 9229), (6, .int .i64 9226), (7, .int .i64 176), (8, .int .i64 177), (9, .int .i64 9252), (10, .int .i64 9227), (11, .int .i64 9496), (12, .int .i64 9488), (13, .int .i64 9484), (14, .int .i64 9492), (15, .int .i64 9532), (16, .int .i64 9146), (17, .int .i64 9147), (18, .int .i64 9472), (19, .int .i64 9148), (20, .int .i64 9149), (21, .int .i64 9500), (22, .int .i64 9508), (23, .int .i64 9524), (24, .int .i64 9516), (25, .int .i64 9474), (26, .int .i64 8804), (27, .int .i64 8805), (28, .int .i64 960), (29, .int .i64 8800), (30, .int .i64 163), (31, .int .i64 183)]
def z32 : Array Value := #[.int .i64 0, .int .i64 0, .int .i64 0, .int .i64 0, .int .i64 0, .int .i64 0, .int .i64 0, .int .i64 0, .int .i64 0, .int .i64 0, .int .i64 0, .int .i64 0, .int .i64 0, .int .i64 0, .int .i64 0, .int .i64 0, .int .i64 0, .int .i64 0, .int .i64 0, .int .i64 0, .int .i64 0, .int .i64 0, .int .i64 0, .int .i64 0, .int .i64 0, .int .i64 0, .int .i64 0, .int .i64 0, .int .i64 0, .int .i64 0, .int .i64 0, .int .i64 0]
def tecA : Array Value := #[.int .i64 9143, .int .i64 9484, .int .i64 9472, .int .i64 8992, .int .i64 8993, .int .i64 9474, .int .i64 9121, .int .i64 9123, .int .i64 9124, .int .i64 9126, .int .i64 9115, .int .i64 9117, .int .i64 9118, .int .i64 9120, .int .i64 9128, .int .i64 9132, .int .i64 65533, .int .i64 65533, .int .i64 65533, .int .i64 65533, .int .i64 65533, .int .i64 65533, .int .i64 65533, .int .i64 65533, .int .i64 65533, .int .i64 65533, .int .i64 65533, .int .i64 8804, .int .i64 8800, .int .i64 8805, .int .i64 8747, .int .i64 8756, .int .i64 8733, .int .i64 8734, .int .i64 247, .int .i64 916, .int .i64 8711, .int .i64 934, .int .i64 915, .int .i64 8764, .int .i64 8771, .int .i64 920, .int .i64 215, .int .i64 923, .int .i64 8660, .int .i64 8658, .int .i64 8801, .int .i64 928, .int .i64 936, .int .i64 65533, .int .i64 931, .int .i64 65533, .int .i64 65533, .int .i64 8730, .int .i64 937, .int .i64 926, .int .i64 933, .int .i64 8834, .int .i64 8835, .int .i64 8745, .int .i64 8746, .int .i64 8743, .int .i64 8744, .int .i64 172, .int .i64 945, .int .i64 946, .int .i64 967, .int .i64 948, .int .i64 949, .int .i64 966, .int .i64 947, .int .i64 951, .int .i64 953, .int .i64 952, .int .i64 954, .int .i64 955, .int .i64 65533, .int .i64 957, .int .i64 8706, .int .i64 960, .int .i64 968, .int .i64 961, .int .i64 963, .int .i64 964, .int .i64 65533, .int .i64 402, .int .i64 969, .int .i64 958, .int .i64 965, .int .i64 950, .int .i64 8592, .int .i64 8593, .int .i64 8594, .int .i64 8595]
def tecP : Array (Nat × Value) := #[(0, .int .i64 9143), (1, .int .i64 9484), (2, .int .i64 9472), (3, .int .i64 8992), (4, .int .i64 8993), (5, .int .i64 9474), (6, .int .i64 9121), (7, .int .i64 9123), (8, .int .i64 9124), (9, .int .i64 9126), (10, .int .i64 9115), (11, .int .i64 9117), (12, .int .i64 9118), (13, .int .i64 9120), (14, .int .i64 9128), (15, .int .i64 9132), (16, .int .i64 65533), (17, .int .i64 65533), (18, .int .i64 65533), (19, .int .i64 65533), (20, .int .i64 65533), (21, .int .i64 65533), (22, .int .i64 65533), (23, .int .i64 65533), (24, .int .i64 65533), (25, .int .i64 65533), (26, .int .i64 65533), (27, .int .i64 8804), (28, .int .i64 8800), (29, .int .i64 8805), (30, .int .i64 8747), (31, .int .i64 8756), (32, .int .i64 8733), (33, .int .i64 8734), (34, .int .i64 247), (35, .int .i64 916), (36, .int .i64 8711), (37, .int .i64 934), (38, .int .i64 915), (39, .int .i64 8764), (40, .int .i64 8771), (41, .int .i64 920), (42, .int .i64 215), (43, .int .i64 923), (44, .int .i64 8660), (45, .int .i64 8658), (46, .int .i64 8801), (47, .int .i64 928), (48, .int .i64 936), (49, .int .i64 65533), (50, .int .i64 931), (51, .int .i64 65533), (52, .int .i64 65533), (53, .int .i64 8730), (54, .int .i64 937), (55, .int .i64 926), (56, .int .i64 933), (57, .int .i64 8834), (58, .int .i64 8835), (59, .int .i64 8745), (60, .int .i64 8746), (61, .int .i64 8743), (62, .int .i64 8744), (63, .int .i64 172), (64, .int .i64 945), (65, .int .i64 946), (66, .int .i64 967), (67, .int .i64 948), (68, .int .i64 949), (69, .int .i64 966), (70, .int .i64 947), (71, .int .i64 951), (72, .int .i64 953), (73, .int .i64 952), (74, .int .i64 954), (75, .int .i64 955), (76, .int .i64 65533), (77, .int .i64 957), (78, .int .i64 8706), (79, .int .i64 960), (80, .int .i64 968), (81, .int .i64 961), (82, .int .i64 963), (83, .int .i64 964), (84, .int .i64 65533), (85, .int .i64 402), (86, .int .i64 969), (87, .int .i64 958), (88, .int .i64 965), (89, .int .i64 950), (90, .int .i64 8592), (91, .int .i64 8593), (92, .int .i64 8594), (93, .int .i64 8595)]
def z94 : Array Value := #[.int .i64 0, .int .i64 0, .int .i64 0, .int .i64 0, .int .i64 0, .int .i64 0, .int .i64 0, .int .i64 0, .int .i64 0, .int .i64 0, .int .i64 0, .int .i64 0, .int .i64 0, .int .i64 0, .int .i64 0, .int .i64 0, .int .i64 0, .int .i64 0, .int .i64 0, .int .i64 0, .int .i64 0, .int .i64 0, .int .i64 0, .int .i64 0, .int .i64 0, .int .i64 0, .int .i64 0, .int .i64 0, .int .i64 0, .int .i64 0, .int .i64 0, .int .i64 0, .int .i64 0, .int .i64 0, .int .i64 0, .int .i64 0, .int .i64 0, .int .i64 0, .int .i64 0, .int .i64 0, .int .i64 0, .int .i64 0, .int .i64 0, .int .i64 0, .int .i64 0, .int .i64 0, .int .i64 0, .int .i64 0, .int .i64 0, .int .i64 0, .int .i64 0, .int .i64 0, .int .i64 0, .int .i64 0, .int .i64 0, .int .i64 0, .int .i64 0, .int .i64 0, .int .i64 0, .int .i64 0, .int .i64 0, .int .i64 0, .int .i64 0, .int .i64 0, .int .i64 0, .int .i64 0, .int .i64 0, .int .i64 0, .int .i64 0, .int .i64 0, .int .i64 0, .int .i64 0, .int .i64 0, .int .i64 0, .int .i64 0, .int .i64 0, .int .i64 0, .int .i64 0, .int .i64 0, .int .i64 0, .int .i64 0, .int .i64 0, .int .i64 0, .int .i64 0, .int .i64 0, .int .i64 0, .int .i64 0, .int .i64 0, .int .i64 0, .int .i64 0, .int .i64 0, .int .i64 0, .int .i64 0, .int .i64 0]
theorem spc_at : ∀ j, j < 32 → spcA[j]? = some (.int .i64 (spcL.getD j 0)) := fun j h => by
  have e : spcA = (spcL.map (Value.int .i64)).toArray := rfl
  rw [e, List.getElem?_toArray, List.getElem?_map, List.getElem?_eq_getElem (show j < spcL.length from h), List.getD_eq_getElem?_getD, List.getElem?_eq_getElem (show j < spcL.length from h)]; rfl
theorem tec_at : ∀ j, j < 94 → tecA[j]? = some (.int .i64 (tecL.getD j 0)) := fun j h => by
  have e : tecA = (tecL.map (Value.int .i64)).toArray := rfl
  rw [e, List.getElem?_toArray, List.getElem?_map, List.getElem?_eq_getElem (show j < tecL.length from h), List.getD_eq_getElem?_getD, List.getElem?_eq_getElem (show j < tecL.length from h)]; rfl
theorem spc_z : (Tryd.prog.info? 82).map (fun i => (i.zero, i.size)) = some (some (.agg z32), 32) := by kernel_rfl
theorem tec_z : (Tryd.prog.info? 83).map (fun i => (i.zero, i.size)) = some (some (.agg z94), 94) := by kernel_rfl
theorem spc_b : Tryd.prog.built 82 spcP.toList = some spcA := by kernel_rfl
theorem tec_b : Tryd.prog.built 83 tecP.toList = some tecA := by kernel_rfl
set_option maxHeartbeats 4000000 in
set_option maxRecDepth 100000 in
theorem spc_any (c : Nat) (h1 : 33 ≤ c) (h2 : c < 127) (w : World) :
    Calls Tryd.prog 46 #[.int .i64 c] w fun e w' => e = .returned (.int .i64 (gP 2 c)) ∧ Below w.heap.size w w' := by
  have h := chk_at spc_ok c (by omega)
  simp only [Bool.or_eq_true] at h
  by_cases h95 : c < 95
  · have hg : gP 2 c = c := by
      rcases h with (h | h) | h
      · exact absurd h1 (by simp at h; omega)
      · exact absurd h2 (by simp at h; omega)
      · rw [if_pos h95] at h; simpa using h
    rw [hg]
    clear hg h
    have hd : decide ((c : Int) < 95) = true := by simp; omega
    go_enter Tryd.func46, Tryd.ntmps46
    go_wp2_with fail
    go_ret
    exact ⟨rfl, Below.refl _ _⟩
  · have hg : gP 2 c = spcL.getD (c - 95) 0 := by
      rcases h with (h | h) | h
      · exact absurd h1 (by simp at h; omega)
      · exact absurd h2 (by simp at h; omega)
      · rw [if_neg h95] at h; simpa using h
    obtain ⟨j, rfl⟩ : ∃ j, c = j + 95 := ⟨c - 95, by omega⟩
    rw [Nat.add_sub_cancel] at hg
    have hc := cell_new w spcA 82 j _ (spc_at j (by omega))
    rw [← hg] at hc
    clear hg h
    generalize gP 2 (j + 95) = g at *
    have hd : decide (((j + 95 : Nat) : Int) < 95) = false := by simp; omega
    have hw : IntKind.i64.wrap (((j + 95 : Nat) : Int) - 95) = j := (IntWalk.i64_in _ (by omega)).trans (by omega)
    have hj : decide (j < 32) = true := by simp; omega
    have hj2 : decide ((j : Int) < 32) = true := by simp; omega
    go_enter Tryd.func46, Tryd.ntmps46
    go_upto_region 3 with fail
    go_step
    refine wpList_build rfl _ spcP (by kernel_rfl) spcA spc_b ?_
    refine wpList_new rfl _ z32 rfl (zero_of_info spc_z).1 ?_
    refine wpList_fill rfl _ z32 spcA _ _ rfl rfl rfl (zero_of_info spc_z).2 rfl (by kernel_rfl) ?_
    generalize spcA = A at *
    go_wp2_with fail
    go_ret
    exact ⟨rfl, (Below.refl _ _).alloc (Nat.le_refl _) _⟩
set_option maxHeartbeats 4000000 in
set_option maxRecDepth 100000 in
theorem tec_any (c : Nat) (h1 : 33 ≤ c) (h2 : c < 127) (w : World) :
    Calls Tryd.prog 47 #[.int .i64 c] w fun e w' => e = .returned (.int .i64 (gP 3 c)) ∧ Below w.heap.size w w' := by
  have h := chk_at tec_ok c (by omega)
  simp only [Bool.or_eq_true] at h
  have hg : gP 3 c = tecL.getD (c - 33) 0 := by
    rcases h with (h | h) | h
    · exact absurd h1 (by simp at h; omega)
    · exact absurd h2 (by simp at h; omega)
    · simpa using h
  obtain ⟨j, rfl⟩ : ∃ j, c = j + 33 := ⟨c - 33, by omega⟩
  rw [Nat.add_sub_cancel] at hg
  have hc := cell_new w tecA 83 j _ (tec_at j (by omega))
  rw [← hg] at hc
  clear hg h
  generalize gP 3 (j + 33) = g at *
  have hw : IntKind.i64.wrap (((j + 33 : Nat) : Int) - 33) = j := (IntWalk.i64_in _ (by omega)).trans (by omega)
  have hj : decide (j < 94) = true := by simp; omega
  have hj2 : decide ((j : Int) < 94) = true := by simp; omega
  go_enter Tryd.func47, Tryd.ntmps47
  go_upto_region 1 with fail
  go_step
  refine wpList_build rfl _ tecP (by kernel_rfl) tecA tec_b ?_
  refine wpList_new rfl _ z94 rfl (zero_of_info tec_z).1 ?_
  refine wpList_fill rfl _ z94 tecA _ _ rfl rfl rfl (zero_of_info tec_z).2 rfl (by kernel_rfl) ?_
  generalize tecA = A at *
  go_wp2_with fail
  go_ret
  exact ⟨rfl, (Below.refl _ _).alloc (Nat.le_refl _) _⟩
end Go.Proofs.YtandfpghjbbalaaDoor

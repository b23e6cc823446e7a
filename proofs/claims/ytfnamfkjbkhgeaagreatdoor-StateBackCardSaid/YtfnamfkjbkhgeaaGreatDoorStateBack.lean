/-
  StateBack holds, whatever the input: the card of the statement, with ten tables tied to the program's text.
-/
import Derived.Test.YtfnamfkjbkhgeaaGreatDoorCards
import Derived.Test.YtfnamfkjbkhgeaaGreatDoorTie
import Derived.Test.YtfnamfkjbkhgeaaGreatDoorFrameSz
import Derived.Test.YtfnamfkjbkhgeaaGreatDoorStbA
namespace Go.Proofs.YtfnamfkjbkhgeaaGreatDoor.stateBack
open Go.ChangeShapes Go.WideShapes Go.ChangeAt Go.RowKit
open Go.ChangeMaps (open_string)

theorem exec_eqA {P : Program} {o : Oper} {a : Act} (op : BinOp) (T : TypeId) (x y : Operand) (u : TypeId) (ho : o.op = .binOp op T x y u) {vx vy r : Value} {w : World} (hx : a.eval x = vx) (hy : a.eval y = vy)
    (hg : (eqGuard op T x y vx vy).run P w = .ok () w) (hb : (binOp op T vx vy).run P w = .ok r w) : (execOp a.eval o).run P w = .ok (.value r) w := by
  unfold execOp
  rw [ho]
  simp only [hx, hy, Sem.run_bind, hg, hb, Result.andThen_ok, Sem.run_pure]
set_option maxRecDepth 100000 in
set_option maxHeartbeats 8000000 in
theorem walk (x : Co) (mz : Int) (lo : 0 ≤ x.K.rd) (hi : x.K.rd ≤ 255) (x' : Co) (mz' : Int) (lo' : 0 ≤ x'.K.rd) (hi' : x'.K.rd ≤ 255) (w : World) (ht : Tab w) (hfc : Faces w) (htn : Ten w) (hmd : Mods w) (hbl : Blanks w) :
    Calls Tryz.prog 4 #[.agg (coZ x mz), .agg (coZ x' mz')] w fun e w' => e = .returned (.bool true) ∧ Below w.heap.size w w' := by
  have HAw := Lib.hid (fun V t f n m => awakeS_any V t f n m)
  have HSm := Lib.hid (fun V => sSmall_any x mz V); have HSm' := Lib.hid (fun V => sSmall_any x' mz' V)
  have hT := Lib.hid ht; have hF := Lib.hid hfc; have hN := Lib.hid htn; have hM := Lib.hid hmd; have hBl := Lib.hid hbl
  have hS : (coZ x mz).size = 29 := rfl
  have hS' : (coZ x' mz').size = 29 := rfl
  have HS := Lib.hid (Bs.start2' w 33 33 (coZ x mz) (coZ x' mz'))
  clear ht hfc htn hmd hbl
  rcases hsm : smK x.f mz with _ | _
  · rw [hsm] at HSm
    generalize coZ x mz = X at *
    generalize coZ x' mz' = X' at *
    clear hsm lo hi lo' hi' HSm'
    --#1
    go_enter Tryz.func4, Tryz.ntmps4
    go_wp2_with fail
    refine (HAw.out _ (hT.out.next HS.out.bel) (hF.out.next HS.out.bel) (hN.out.next HS.out.bel) (hM.out.next HS.out.bel)).mono ?_
    rintro e w1 ⟨rfl, hb⟩
    have HK1 := Lib.hid (HS.out.next hb)
    clear hb HS
    go_wp2_with (first | (refine wpList_load_row rfl _ _ rfl w.heap.size rfl _ X (0, 0) _ HK1.out.b0 under_cr rfl (by rw [hS]; exact info_cr) ?_))
    refine (HSm.out _).mono ?_
    rintro e w2 ⟨rfl, hb⟩
    have HK2 := Lib.hid (HK1.out.next hb)
    clear hb HK1
    go_wp2_with fail
    go_ret
    exact ⟨rfl, HK2.out.bel⟩
  · have hb : 0 ≤ mz ∧ mz < 4294967296 ∧ x.f.pb ≤ 60000 ∧ x.f.pr ≤ 60000 := by
      unfold smK at hsm
      simpa [Bool.and_eq_true, and_assoc] using hsm
    rw [hsm] at HSm
    rcases hsm' : smK x'.f mz' with _ | _
    · rw [hsm'] at HSm'
      generalize coZ x mz = X at *
      generalize coZ x' mz' = X' at *
      clear hsm hsm' lo hi lo' hi' hb
      --#2
      go_enter Tryz.func4, Tryz.ntmps4
      go_wp2_with fail
      refine (HAw.out _ (hT.out.next HS.out.bel) (hF.out.next HS.out.bel) (hN.out.next HS.out.bel) (hM.out.next HS.out.bel)).mono ?_
      rintro e w1 ⟨rfl, hb⟩
      have HK1 := Lib.hid (HS.out.next hb)
      clear hb HS
      go_wp2_with (first | (refine wpList_load_row rfl _ _ rfl w.heap.size rfl _ X (0, 0) _ HK1.out.b0 under_cr rfl (by rw [hS]; exact info_cr) ?_))
      refine (HSm.out _).mono ?_
      rintro e w2 ⟨rfl, hb⟩
      have HK2 := Lib.hid (HK1.out.next hb)
      clear hb HK1
      --#3
      go_wp2_with (first | (refine wpList_load_rowG rfl _ _ rfl (w.heap.size + 1) rfl _ X' (0, 0) _ HK2.out.b1 under_cr rfl (by rw [hS']; exact info_cr) ?_))
      refine (HSm'.out _).mono ?_
      rintro e w3 ⟨rfl, hb⟩
      have HK3 := Lib.hid (HK2.out.next hb)
      clear hb HK2
      go_wp2_with fail
      go_ret
      exact ⟨rfl, HK3.out.bel⟩
    · have hb' : 0 ≤ mz' ∧ mz' < 4294967296 ∧ x'.f.pb ≤ 60000 ∧ x'.f.pr ≤ 60000 := by
        unfold smK at hsm'
        simpa [Bool.and_eq_true, and_assoc] using hsm'
      rw [hsm'] at HSm'
      obtain ⟨z, hz⟩ : ∃ z : Co, z = { x with m := mz.toNat } := ⟨_, rfl⟩
      obtain ⟨z', hz'⟩ : ∃ z : Co, z = { x' with m := mz'.toNat } := ⟨_, rfl⟩
      have hzX : coZ x mz = coC .i64 z := by
        have e : ((mz.toNat : Nat) : Int) = mz := by omega
        subst hz
        unfold coZ coC
        simp only [e]
      have hzX' : coZ x' mz' = coC .i64 z' := by
        have e : ((mz'.toNat : Nat) : Int) = mz' := by omega
        subst hz'
        unfold coZ coC
        simp only [e]
      have hzm : z.m < 2 ^ 32 := by subst hz; show mz.toNat < 2 ^ 32; omega
      have hzm' : z'.m < 2 ^ 32 := by subst hz'; show mz'.toNat < 2 ^ 32; omega
      have hzb : z.f.pb ≤ 60000 ∧ z.f.pr ≤ 60000 := by subst hz; exact hb.2.2
      have l1 : 0 ≤ z.K.rd := by subst hz; exact lo
      have l2 : z.K.rd ≤ 255 := by subst hz; exact hi
      have l3 : 0 ≤ z'.K.rd := by subst hz'; exact lo'
      have l4 : z'.K.rd ≤ 255 := by subst hz'; exact hi'
      obtain ⟨y, o, my, mo, mw, ma, HCy, HCo, HCu, HRp, HSc, HRs⟩ := back_calls hzb l1 l2 l3 l4
      replace HCy := Lib.hid HCy; replace HCo := Lib.hid HCo; replace HCu := Lib.hid HCu; replace HRp := Lib.hid HRp; replace HSc := Lib.hid HSc; replace HRs := Lib.hid HRs
      have HOy := Lib.hid (fun V => coOwn_any my V); have HOo := Lib.hid (fun V => coOwn_any mo V)
      have HTw := Lib.hid (fun V => coTold_any mw V); have HTa := Lib.hid (fun V => coTold_any ma V)
      rw [hzX] at HS HSm hS ⊢
      rw [hzX'] at HS HSm' hS' ⊢
      clear hzX hzX' hz hz' hzm hzm' l1 l2 l3 l4 hzb hb hb' hsm hsm' lo hi lo' hi' my mo mw ma
      generalize joinT (curF y) = jc at *
      generalize joinT ((nbrP y).map itT) = jr at *
      have hX : Hid (coC .i64 z = coC .i64 (coG z z.K.a z.K.b z.K.c z.K.d)) := Lib.hid rfl
      obtain ⟨X, hXX⟩ : ∃ X, X = coC .i64 z := ⟨_, rfl⟩
      obtain ⟨X', hXX'⟩ : ∃ X', X' = coC .i64 z' := ⟨_, rfl⟩
      rw [← hXX] at HS HSm hS hX ⊢
      rw [← hXX'] at HS HSm' hS' ⊢
      replace hXX' := Lib.hid hXX'
      clear hXX
      unfold coV at HCy HCo HCu HRp HSc HRs HOy HOo HTw HTa
      --#4
      go_enter Tryz.func4, Tryz.ntmps4
      go_wp2_with fail
      refine (HAw.out _ (hT.out.next HS.out.bel) (hF.out.next HS.out.bel) (hN.out.next HS.out.bel) (hM.out.next HS.out.bel)).mono ?_
      rintro e w1 ⟨rfl, hb⟩
      have HK1 := Lib.hid (HS.out.next hb)
      clear hb HS HAw hM
      go_wp2_with (first | (refine wpList_load_row rfl _ _ rfl w.heap.size rfl _ X (0, 0) _ HK1.out.b0 under_cr rfl (by rw [hS]; exact info_cr) ?_))
      refine (HSm.out _).mono ?_
      rintro e w2 ⟨rfl, hb⟩
      have HK2 := Lib.hid (HK1.out.next hb)
      clear hb HK1 HSm
      go_wp2_with (first | (refine wpList_load_rowG rfl _ _ rfl (w.heap.size + 1) rfl _ X' (0, 0) _ HK2.out.b1 under_cr rfl (by rw [hS']; exact info_cr) ?_))
      refine (HSm'.out _).mono ?_
      rintro e w3 ⟨rfl, hb⟩
      have HK3 := Lib.hid (HK2.out.next hb)
      clear hb HK2 HSm'
      --#5
      have HKz : Hid (Bs w [(w.heap.size, 33, coC .i64 (coG z z.K.a z.K.b z.K.c z.K.d)), (w.heap.size + 1, 33, X')] w3) := Lib.hid (by rw [← hX.out]; exact HK3.out)
      clear HK3 hX hS
      have c6 : w3.cell? ⟨w.heap.size, 6, none⟩ = some (.int .i64 z.K.a) := Blk.cell HKz.out.b0 6
      have c7 : w3.cell? ⟨w.heap.size, 7, none⟩ = some (.int .i64 z.K.b) := Blk.cell HKz.out.b0 7
      have c8 : w3.cell? ⟨w.heap.size, 8, none⟩ = some (.int .i64 z.K.c) := Blk.cell HKz.out.b0 8
      have c9 : w3.cell? ⟨w.heap.size, 9, none⟩ = some (.int .i64 z.K.d) := Blk.cell HKz.out.b0 9
      go_wp2_with fail
      clear c6 c7 c8 c9
      --#6
      go_loopw [26] (fun i wr => ∃ k : Nat, k ≤ 4 ∧ i = .int .i64 k ∧ Bs w [(w.heap.size, 33, coC .i64 (coG z (if 0 < k then fxS 0 z.K.a else z.K.a) (if 1 < k then fxS 1 z.K.b else z.K.b) (if 2 < k then fxS 2 z.K.c else z.K.c) (if 3 < k then fxS 3 z.K.d else z.K.d))), (w.heap.size + 1, 33, X')] wr) (fun i _ => 4 - (intOf i).toNat)
      case atStart => exact ⟨0, by omega, rfl, HKz.out⟩
      case round =>
        obtain ⟨k, hk, rfl, hB⟩ := hrel
        have hk5 : k = 0 ∨ k = 1 ∨ k = 2 ∨ k = 3 ∨ k = 4 := by omega
        clear HKz hk
        rcases hk5 with rfl | rfl | rfl | rfl | rfl
        · replace hB := Lib.hid (show Bs w [(w.heap.size, 33, coC .i64 (coG z z.K.a z.K.b z.K.c z.K.d)), (w.heap.size + 1, 33, X')] wr from hB)
          have fz : wr.frozen? ⟨w.heap.size, 6, none⟩ = false := hB.out.b0.frozen 6
          have cz : wr.cell? ⟨w.heap.size, 6, none⟩ = some (.int .i64 z.K.a) := Blk.cell hB.out.b0 6
          have hix : ∀ W, (Instr.index 23 (.agg #[.int .i64 z.K.a, .int .i64 z.K.b, .int .i64 z.K.c, .int .i64 z.K.d]) (.int .i64 0)).run Tryz.prog W = .ok (.int .i64 z.K.a) W := fun W => by rfl
          clear HCy HCo HCu HRp HSc HRs HOy HOo HTw HTa
          --#70
          by_cases h1 : z.K.a < 1
          · have g1 : (z.K.a < 1) = True := eq_true h1
            have g1b : decide (z.K.a < 1) = true := decide_eq_true h1
            have hx : Hid (fxS 0 z.K.a = 1) := Lib.hid (by unfold fxS; rw [if_pos (by omega)])
            clear h1
            go_wp2_with fail
            go_roundw
            case rel => exact ⟨1, by omega, by rfl, by
              show Bs w [(w.heap.size, 33, coC .i64 (coG z (fxS 0 z.K.a) z.K.b z.K.c z.K.d)), (w.heap.size + 1, 33, X')] _
              rw [hx.out]
              have HH := hB.out.s0 6 (.int .i64 1)
              unfold coC coG at HH
              simp only [List.setIfInBounds_toArray, List.set_cons_zero, List.set_cons_succ] at HH
              exact HH⟩
            case measure => simp [intOf]
          · have g1 : (z.K.a < 1) = False := eq_false h1
            have g1b : decide (z.K.a < 1) = false := decide_eq_false h1
            by_cases h2 : 17 < z.K.a
            · have g2 : (17 < z.K.a) = True := eq_true h2
              have g2b : decide (17 < z.K.a) = true := decide_eq_true h2
              have hx : Hid (fxS 0 z.K.a = 1) := Lib.hid (by unfold fxS; rw [if_pos (by omega)])
              clear h1 h2
              go_wp2_with fail
              go_roundw
              case rel => exact ⟨1, by omega, by rfl, by
                show Bs w [(w.heap.size, 33, coC .i64 (coG z (fxS 0 z.K.a) z.K.b z.K.c z.K.d)), (w.heap.size + 1, 33, X')] _
                rw [hx.out]
                have HH := hB.out.s0 6 (.int .i64 1)
                unfold coC coG at HH
                simp only [List.setIfInBounds_toArray, List.set_cons_zero, List.set_cons_succ] at HH
                exact HH⟩
              case measure => simp [intOf]
            · have g2 : (17 < z.K.a) = False := eq_false h2
              have g2b : decide (17 < z.K.a) = false := decide_eq_false h2
              by_cases h3 : z.K.a = 5
              · have g3 : (z.K.a = 5) = True := eq_true h3
                have g3b : (z.K.a == 5) = true := beq_iff_eq.2 h3
                have hx : Hid (fxS 0 z.K.a = 1) := Lib.hid (by unfold fxS; rw [if_pos (by omega)])
                clear h1 h2 h3
                go_wp2_with fail
                go_roundw
                case rel => exact ⟨1, by omega, by rfl, by
                  show Bs w [(w.heap.size, 33, coC .i64 (coG z (fxS 0 z.K.a) z.K.b z.K.c z.K.d)), (w.heap.size + 1, 33, X')] _
                  rw [hx.out]
                  have HH := hB.out.s0 6 (.int .i64 1)
                  unfold coC coG at HH
                  simp only [List.setIfInBounds_toArray, List.set_cons_zero, List.set_cons_succ] at HH
                  exact HH⟩
                case measure => simp [intOf]
              · have g3 : (z.K.a = 5) = False := eq_false h3
                have g3b : (z.K.a == 5) = false := beq_eq_false_iff_ne.2 h3
                have hx : Hid (fxS 0 z.K.a = z.K.a) := Lib.hid (by unfold fxS; rw [if_neg (by omega)])
                clear h1 h2 h3
                go_wp2_with fail
                go_roundw
                case rel => exact ⟨1, by omega, by rfl, by
                  show Bs w [(w.heap.size, 33, coC .i64 (coG z (fxS 0 z.K.a) z.K.b z.K.c z.K.d)), (w.heap.size + 1, 33, X')] _
                  rw [hx.out]
                  exact hB.out⟩
                case measure => simp [intOf]
        · replace hB := Lib.hid (show Bs w [(w.heap.size, 33, coC .i64 (coG z (fxS 0 z.K.a) z.K.b z.K.c z.K.d)), (w.heap.size + 1, 33, X')] wr from hB)
          have fz : wr.frozen? ⟨w.heap.size, 7, none⟩ = false := hB.out.b0.frozen 7
          have cz : wr.cell? ⟨w.heap.size, 7, none⟩ = some (.int .i64 z.K.b) := Blk.cell hB.out.b0 7
          have hix : ∀ W, (Instr.index 23 (.agg #[.int .i64 z.K.a, .int .i64 z.K.b, .int .i64 z.K.c, .int .i64 z.K.d]) (.int .i64 1)).run Tryz.prog W = .ok (.int .i64 z.K.b) W := fun W => by rfl
          clear HCy HCo HCu HRp HSc HRs HOy HOo HTw HTa
          --#71
          by_cases h1 : z.K.b < 1
          · have g1 : (z.K.b < 1) = True := eq_true h1
            have g1b : decide (z.K.b < 1) = true := decide_eq_true h1
            have hx : Hid (fxS 1 z.K.b = 1) := Lib.hid (by unfold fxS; rw [if_pos (by omega)])
            clear h1
            go_wp2_with fail
            go_roundw
            case rel => exact ⟨2, by omega, by rfl, by
              show Bs w [(w.heap.size, 33, coC .i64 (coG z (fxS 0 z.K.a) (fxS 1 z.K.b) z.K.c z.K.d)), (w.heap.size + 1, 33, X')] _
              rw [hx.out]
              have HH := hB.out.s0 7 (.int .i64 1)
              unfold coC coG at HH
              simp only [List.setIfInBounds_toArray, List.set_cons_zero, List.set_cons_succ] at HH
              exact HH⟩
            case measure => simp [intOf]
          · have g1 : (z.K.b < 1) = False := eq_false h1
            have g1b : decide (z.K.b < 1) = false := decide_eq_false h1
            by_cases h2 : 17 < z.K.b
            · have g2 : (17 < z.K.b) = True := eq_true h2
              have g2b : decide (17 < z.K.b) = true := decide_eq_true h2
              have hx : Hid (fxS 1 z.K.b = 1) := Lib.hid (by unfold fxS; rw [if_pos (by omega)])
              clear h1 h2
              go_wp2_with fail
              go_roundw
              case rel => exact ⟨2, by omega, by rfl, by
                show Bs w [(w.heap.size, 33, coC .i64 (coG z (fxS 0 z.K.a) (fxS 1 z.K.b) z.K.c z.K.d)), (w.heap.size + 1, 33, X')] _
                rw [hx.out]
                have HH := hB.out.s0 7 (.int .i64 1)
                unfold coC coG at HH
                simp only [List.setIfInBounds_toArray, List.set_cons_zero, List.set_cons_succ] at HH
                exact HH⟩
              case measure => simp [intOf]
            · have g2 : (17 < z.K.b) = False := eq_false h2
              have g2b : decide (17 < z.K.b) = false := decide_eq_false h2
              have hx : Hid (fxS 1 z.K.b = z.K.b) := Lib.hid (by unfold fxS; rw [if_neg (by omega)])
              clear h1 h2
              go_wp2_with fail
              go_roundw
              case rel => exact ⟨2, by omega, by rfl, by
                show Bs w [(w.heap.size, 33, coC .i64 (coG z (fxS 0 z.K.a) (fxS 1 z.K.b) z.K.c z.K.d)), (w.heap.size + 1, 33, X')] _
                rw [hx.out]
                exact hB.out⟩
              case measure => simp [intOf]
        · replace hB := Lib.hid (show Bs w [(w.heap.size, 33, coC .i64 (coG z (fxS 0 z.K.a) (fxS 1 z.K.b) z.K.c z.K.d)), (w.heap.size + 1, 33, X')] wr from hB)
          have fz : wr.frozen? ⟨w.heap.size, 8, none⟩ = false := hB.out.b0.frozen 8
          have cz : wr.cell? ⟨w.heap.size, 8, none⟩ = some (.int .i64 z.K.c) := Blk.cell hB.out.b0 8
          have hix : ∀ W, (Instr.index 23 (.agg #[.int .i64 z.K.a, .int .i64 z.K.b, .int .i64 z.K.c, .int .i64 z.K.d]) (.int .i64 2)).run Tryz.prog W = .ok (.int .i64 z.K.c) W := fun W => by rfl
          clear HCy HCo HCu HRp HSc HRs HOy HOo HTw HTa
          --#72
          by_cases h1 : z.K.c < 1
          · have g1 : (z.K.c < 1) = True := eq_true h1
            have g1b : decide (z.K.c < 1) = true := decide_eq_true h1
            have hx : Hid (fxS 2 z.K.c = 1) := Lib.hid (by unfold fxS; rw [if_pos (by omega)])
            clear h1
            go_wp2_with fail
            go_roundw
            case rel => exact ⟨3, by omega, by rfl, by
              show Bs w [(w.heap.size, 33, coC .i64 (coG z (fxS 0 z.K.a) (fxS 1 z.K.b) (fxS 2 z.K.c) z.K.d)), (w.heap.size + 1, 33, X')] _
              rw [hx.out]
              have HH := hB.out.s0 8 (.int .i64 1)
              unfold coC coG at HH
              simp only [List.setIfInBounds_toArray, List.set_cons_zero, List.set_cons_succ] at HH
              exact HH⟩
            case measure => simp [intOf]
          · have g1 : (z.K.c < 1) = False := eq_false h1
            have g1b : decide (z.K.c < 1) = false := decide_eq_false h1
            by_cases h2 : 17 < z.K.c
            · have g2 : (17 < z.K.c) = True := eq_true h2
              have g2b : decide (17 < z.K.c) = true := decide_eq_true h2
              have hx : Hid (fxS 2 z.K.c = 1) := Lib.hid (by unfold fxS; rw [if_pos (by omega)])
              clear h1 h2
              go_wp2_with fail
              go_roundw
              case rel => exact ⟨3, by omega, by rfl, by
                show Bs w [(w.heap.size, 33, coC .i64 (coG z (fxS 0 z.K.a) (fxS 1 z.K.b) (fxS 2 z.K.c) z.K.d)), (w.heap.size + 1, 33, X')] _
                rw [hx.out]
                have HH := hB.out.s0 8 (.int .i64 1)
                unfold coC coG at HH
                simp only [List.setIfInBounds_toArray, List.set_cons_zero, List.set_cons_succ] at HH
                exact HH⟩
              case measure => simp [intOf]
            · have g2 : (17 < z.K.c) = False := eq_false h2
              have g2b : decide (17 < z.K.c) = false := decide_eq_false h2
              have hx : Hid (fxS 2 z.K.c = z.K.c) := Lib.hid (by unfold fxS; rw [if_neg (by omega)])
              clear h1 h2
              go_wp2_with fail
              go_roundw
              case rel => exact ⟨3, by omega, by rfl, by
                show Bs w [(w.heap.size, 33, coC .i64 (coG z (fxS 0 z.K.a) (fxS 1 z.K.b) (fxS 2 z.K.c) z.K.d)), (w.heap.size + 1, 33, X')] _
                rw [hx.out]
                exact hB.out⟩
              case measure => simp [intOf]
        · replace hB := Lib.hid (show Bs w [(w.heap.size, 33, coC .i64 (coG z (fxS 0 z.K.a) (fxS 1 z.K.b) (fxS 2 z.K.c) z.K.d)), (w.heap.size + 1, 33, X')] wr from hB)
          have fz : wr.frozen? ⟨w.heap.size, 9, none⟩ = false := hB.out.b0.frozen 9
          have cz : wr.cell? ⟨w.heap.size, 9, none⟩ = some (.int .i64 z.K.d) := Blk.cell hB.out.b0 9
          have hix : ∀ W, (Instr.index 23 (.agg #[.int .i64 z.K.a, .int .i64 z.K.b, .int .i64 z.K.c, .int .i64 z.K.d]) (.int .i64 3)).run Tryz.prog W = .ok (.int .i64 z.K.d) W := fun W => by rfl
          clear HCy HCo HCu HRp HSc HRs HOy HOo HTw HTa
          --#73
          by_cases h1 : z.K.d < 1
          · have g1 : (z.K.d < 1) = True := eq_true h1
            have g1b : decide (z.K.d < 1) = true := decide_eq_true h1
            have hx : Hid (fxS 3 z.K.d = 1) := Lib.hid (by unfold fxS; rw [if_pos (by omega)])
            clear h1
            go_wp2_with fail
            go_roundw
            case rel => exact ⟨4, by omega, by rfl, by
              show Bs w [(w.heap.size, 33, coC .i64 (coG z (fxS 0 z.K.a) (fxS 1 z.K.b) (fxS 2 z.K.c) (fxS 3 z.K.d))), (w.heap.size + 1, 33, X')] _
              rw [hx.out]
              have HH := hB.out.s0 9 (.int .i64 1)
              unfold coC coG at HH
              simp only [List.setIfInBounds_toArray, List.set_cons_zero, List.set_cons_succ] at HH
              exact HH⟩
            case measure => simp [intOf]
          · have g1 : (z.K.d < 1) = False := eq_false h1
            have g1b : decide (z.K.d < 1) = false := decide_eq_false h1
            by_cases h2 : 17 < z.K.d
            · have g2 : (17 < z.K.d) = True := eq_true h2
              have g2b : decide (17 < z.K.d) = true := decide_eq_true h2
              have hx : Hid (fxS 3 z.K.d = 1) := Lib.hid (by unfold fxS; rw [if_pos (by omega)])
              clear h1 h2
              go_wp2_with fail
              go_roundw
              case rel => exact ⟨4, by omega, by rfl, by
                show Bs w [(w.heap.size, 33, coC .i64 (coG z (fxS 0 z.K.a) (fxS 1 z.K.b) (fxS 2 z.K.c) (fxS 3 z.K.d))), (w.heap.size + 1, 33, X')] _
                rw [hx.out]
                have HH := hB.out.s0 9 (.int .i64 1)
                unfold coC coG at HH
                simp only [List.setIfInBounds_toArray, List.set_cons_zero, List.set_cons_succ] at HH
                exact HH⟩
              case measure => simp [intOf]
            · have g2 : (17 < z.K.d) = False := eq_false h2
              have g2b : decide (17 < z.K.d) = false := decide_eq_false h2
              have hx : Hid (fxS 3 z.K.d = z.K.d) := Lib.hid (by unfold fxS; rw [if_neg (by omega)])
              clear h1 h2
              go_wp2_with fail
              go_roundw
              case rel => exact ⟨4, by omega, by rfl, by
                show Bs w [(w.heap.size, 33, coC .i64 (coG z (fxS 0 z.K.a) (fxS 1 z.K.b) (fxS 2 z.K.c) (fxS 3 z.K.d))), (w.heap.size + 1, 33, X')] _
                rw [hx.out]
                exact hB.out⟩
              case measure => simp [intOf]
        · replace hB := Lib.hid (show Bs w [(w.heap.size, 33, coC .i64 (coG z (fxS 0 z.K.a) (fxS 1 z.K.b) (fxS 2 z.K.c) (fxS 3 z.K.d))), (w.heap.size + 1, 33, X')] wr from hB)
          --#8
          have c11 : wr.cell? ⟨w.heap.size, 11, none⟩ = some (.int .i64 z.K.r) := Blk.cell hB.out.b0 11
          have f11 : wr.frozen? ⟨w.heap.size, 11, none⟩ = false := hB.out.b0.frozen 11
          by_cases h0 : z.K.r = 0
          · have g0 : (z.K.r = 0) = True := eq_true h0
            have g0b : (z.K.r == 0) = true := beq_iff_eq.2 h0
            have hM5 : Hid (coM z = coR (coG z (fxS 0 z.K.a) (fxS 1 z.K.b) (fxS 2 z.K.c) (fxS 3 z.K.d)) 2) := Lib.hid (by unfold coM; rw [if_pos h0])
            clear h0
            go_upto_region 13 with fail
            refine world_gen (fun V => Bs w [(w.heap.size, 33, coC .i64 (coM z)), (w.heap.size + 1, 33, X')] V) (by rw [hM5.out]; have HH := hB.out.s0 11 (.int .i64 2); unfold coC coG at HH; simp only [List.setIfInBounds_toArray, List.set_cons_zero, List.set_cons_succ] at HH; exact HH) ?_
            clear c11 f11 g0 g0b hM5 hB
            intro w4 H4
            replace H4 := Lib.hid H4
            obtain ⟨MR, hMR⟩ : ∃ R, R = coC .i64 (coM z) := ⟨_, rfl⟩
            obtain ⟨YR, hYR⟩ : ∃ R, R = coC .i64 y := ⟨_, rfl⟩
            obtain ⟨YU, hYU⟩ : ∃ R, R = coC .u32 y := ⟨_, rfl⟩
            obtain ⟨OR, hOR⟩ : ∃ R, R = coC .i64 o := ⟨_, rfl⟩
            obtain ⟨OU, hOU⟩ : ∃ R, R = coC .u32 o := ⟨_, rfl⟩
            obtain ⟨PR, hPR⟩ : ∃ R, R = coC .i64 (coP z' y) := ⟨_, rfl⟩
            obtain ⟨WR, hWR⟩ : ∃ R, R = coC .i64 (coW o y) := ⟨_, rfl⟩
            obtain ⟨WU, hWU⟩ : ∃ R, R = coC .u32 (coW o y) := ⟨_, rfl⟩
            obtain ⟨AR, hAR⟩ : ∃ R, R = coC .i64 (coA y o) := ⟨_, rfl⟩
            obtain ⟨AU, hAU⟩ : ∃ R, R = coC .u32 (coA y o) := ⟨_, rfl⟩
            have E1 := Lib.hid (fun V => neq_co V (coW o y)); have G1 := Lib.hid (fun V op p p2 => guard_co V op p p2 (coW o y) (coW o y))
            have E2 := Lib.hid (fun V => eql_co V (coA y o)); have G2 := Lib.hid (fun V op p p2 => guard_co V op p p2 (coA y o) (coA y o))
            unfold coV at E1 G1 E2 G2
            have zM : MR.size = 29 := by rw [hMR]; exact coS _ _
            have zY : YR.size = 29 := by rw [hYR]; exact coS _ _
            have zO' : OR.size = 29 := by rw [hOR]; exact coS _ _
            have zP : PR.size = 29 := by rw [hPR]; exact coS _ _
            have zW : WR.size = 29 := by rw [hWR]; exact coS _ _
            have zV : WU.size = 29 := by rw [hWU]; exact coS _ _
            have zA : AR.size = 29 := by rw [hAR]; exact coS _ _
            have zB : AU.size = 29 := by rw [hAU]; exact coS _ _
            have oY : YR.all (·.oneCell') = true := by rw [hYR]; exact co_one _ _
            have oO : OR.all (·.oneCell') = true := by rw [hOR]; exact co_one _ _
            have oV : WU.all (·.oneCell') = true := by rw [hWU]; exact co_one _ _
            have oB : AU.all (·.oneCell') = true := by rw [hAU]; exact co_one _ _
            rw [← hMR] at H4 HCy
            rw [← hYR] at HCy HOy
            rw [← hYU] at HOy HCu HRp
            rw [← hPR] at HCo
            rw [← hOR] at HCo HOo
            rw [← hOU] at HOo HSc HRs
            rw [← hWU] at HSc HTw
            rw [← hWR] at HTw E1 G1
            rw [← hAU] at HRs HTa
            rw [← hAR] at HTa E2 G2
            replace hYR := Lib.hid hYR; replace hOR := Lib.hid hOR; replace hPR := Lib.hid hPR; replace hWR := Lib.hid hWR; replace hAR := Lib.hid hAR
            clear hMR hYU hOU hWU hAU
            --#9
            go_wp2_with (first | (refine wpList_load_row rfl _ _ rfl w.heap.size rfl _ MR (0, 0) _ H4.out.b0 under_cr rfl (by rw [zM]; exact info_cr) ?_))
            refine (HCy.out _).mono ?_
            rintro e w5 ⟨rfl, hb⟩
            have H5 := Lib.hid (H4.out.next hb)
            clear hb H4 HCy
            --#a
            go_upto_region 14 with (refine wpList_store_row rfl _ _ _ rfl w.heap.size YR rfl rfl _ _ H5.out.b0 (by rw [zY]; exact info_cr) (by rw [zM, zY]) oY ?_)
            refine world_gen (fun V => Bs w [(w.heap.size + 1, 33, coC .i64 z'), (w.heap.size, 33, coC .i64 y)] V) (by rw [← hXX'.out, ← hYR.out]; exact (H5.out.row YR).sw1) ?_
            clear H5 zM
            intro w6 H6
            replace H6 := Lib.hid H6
            have c13 : w6.cell? ⟨w.heap.size, 13, none⟩ = some (.int .i64 y.f.pt) := Blk.cell H6.out.b1 13
            have c14 : w6.cell? ⟨w.heap.size, 14, none⟩ = some (.int .i64 y.f.pl) := Blk.cell H6.out.b1 14
            have c15 : w6.cell? ⟨w.heap.size, 15, none⟩ = some (.int .i64 y.f.pb) := Blk.cell H6.out.b1 15
            have c16 : w6.cell? ⟨w.heap.size, 16, none⟩ = some (.int .i64 y.f.pr) := Blk.cell H6.out.b1 16
            have c28 : w6.cell? ⟨w.heap.size, 28, none⟩ = some (.int .i64 y.ps) := Blk.cell H6.out.b1 28
            have d13 : w6.cell? ⟨(w.heap.size + 1), 13, none⟩ = some (.int .i64 z'.f.pt) := Blk.cell H6.out.b0 13
            have d14 : w6.cell? ⟨(w.heap.size + 1), 14, none⟩ = some (.int .i64 z'.f.pl) := Blk.cell H6.out.b0 14
            have d15 : w6.cell? ⟨(w.heap.size + 1), 15, none⟩ = some (.int .i64 z'.f.pb) := Blk.cell H6.out.b0 15
            have d16 : w6.cell? ⟨(w.heap.size + 1), 16, none⟩ = some (.int .i64 z'.f.pr) := Blk.cell H6.out.b0 16
            have d28 : w6.cell? ⟨(w.heap.size + 1), 28, none⟩ = some (.int .i64 z'.ps) := Blk.cell H6.out.b0 28
            have f13 : w6.frozen? ⟨(w.heap.size + 1), 13, none⟩ = false := Blk.frozen H6.out.b0 13
            have f14 : w6.frozen? ⟨(w.heap.size + 1), 14, none⟩ = false := Blk.frozen H6.out.b0 14
            have f15 : w6.frozen? ⟨(w.heap.size + 1), 15, none⟩ = false := Blk.frozen H6.out.b0 15
            have f16 : w6.frozen? ⟨(w.heap.size + 1), 16, none⟩ = false := Blk.frozen H6.out.b0 16
            have f28 : w6.frozen? ⟨(w.heap.size + 1), 28, none⟩ = false := Blk.frozen H6.out.b0 28
            --#b
            have HQ : Hid (Bs w [(w.heap.size + 1, 33, coC .i64 (coP z' y)), (w.heap.size, 33, coC .i64 y)] (((((w6.setCell ⟨w.heap.size + 1, 13, none⟩ (.int .i64 y.f.pt)).setCell ⟨w.heap.size + 1, 14, none⟩ (.int .i64 y.f.pl)).setCell ⟨w.heap.size + 1, 15, none⟩ (.int .i64 y.f.pb)).setCell ⟨w.heap.size + 1, 16, none⟩ (.int .i64 y.f.pr)).setCell ⟨w.heap.size + 1, 28, none⟩ (.int .i64 y.ps))) := Lib.hid (by have HH := (((((H6.out.s0 13 (.int .i64 y.f.pt)).s0 14 (.int .i64 y.f.pl)).s0 15 (.int .i64 y.f.pb)).s0 16 (.int .i64 y.f.pr)).s0 28 (.int .i64 y.ps)); unfold coC at HH; simp only [List.setIfInBounds_toArray, List.set_cons_zero, List.set_cons_succ] at HH; exact HH)
            try simp only [Act.put]
            go_cut [3] (fun sl wx => sl = .pointer (some ⟨w.heap.size + 1, 0, none⟩) ∧ Bs w [(w.heap.size + 1, 33, coC .i64 (coP z' y)), (w.heap.size, 33, coC .i64 y)] wx)
            case first =>
              go_region
              all_goals
                go_wp2_with fail
                go_meet
                exact ⟨rfl, HQ.out.drewB⟩
            case rest =>
              obtain ⟨rfl, H7⟩ := hcut
              rename World => w7
              replace H7 : Bs w [(w.heap.size + 1, 33, PR), (w.heap.size, 33, YR)] w7 := by rw [hPR.out, hYR.out]; exact H7
              replace H7 := Lib.hid H7
              clear HQ H6 c13 c14 c15 c16 c28 d13 d14 d15 d16 d28 f13 f14 f15 f16 f28
              --#c
              go_wp2_with (first | (refine wpList_load_row rfl _ _ rfl (w.heap.size + 1) rfl _ PR (0, 0) _ H7.out.b0 under_cr rfl (by rw [zP]; exact info_cr) ?_))
              refine (HCo.out _).mono ?_
              rintro e w8 ⟨rfl, hb⟩
              have H8 := Lib.hid (H7.out.next hb)
              clear hb H7 HCo
              --#d
              go_upto_region 16 with (refine wpList_store_row rfl _ _ _ rfl (w.heap.size + 1) OR rfl rfl _ _ H8.out.b0 (by rw [zO']; exact info_cr) (by rw [zP, zO']) oO ?_)
              refine world_gen (fun V => Bs w [(w.heap.size + 1, 33, OR), (w.heap.size, 33, YR)] V) (H8.out.row OR) ?_
              clear H8 zP
              intro w9 H9
              replace H9 := Lib.hid H9
              have HXo := Lib.hid (fun w' (h : Only [] w9 w') => h.blk H9.out.b0 (by simp)); have HXy := Lib.hid (fun w' (h : Only [] w9 w') => h.blk H9.out.b1 (by simp))
              have HTt := Lib.hid (fun w' (h : Only [] w9 w') => (H9.out.only h).bel)
              --#e
              refine wp_region_mix_lit (by kernel_rfl) [(1, .call (.agg OU)), (3, .call (.agg YU)), (4, .call (.string jc)), (5, .call (.tuple #[.agg WU, .int .i64 0])), (9, .alloc 10 45 (zO .u32) (fun _ => WU)), (10, .init 9)] (by kernel_rfl) (by kernel_rfl) (by kernel_rfl) (by rfl) (by simp [apartK] <;> omega) (by simp [startK]) (by simp [stabK]) (⟨fun i => .pointer (some ⟨w9.heap.size, 0, none⟩), by simp only [List.forall_mem_cons]; exact ⟨trivial, trivial, trivial, trivial, ⟨_, rfl, Nat.le_refl _⟩, trivial, by simp⟩⟩) (fun β hβ => ?_)
              refine lex_val (v := .agg OR) rfl rfl (fun w' hf => exec_load_row _ (.tmp 3) rfl rfl (HXo.out w' hf.only) under_cr rfl (by rw [zO']; exact info_cr)) ?_
              try simp only [Act.put, List.setIfInBounds_toArray, List.set_cons_zero, List.set_cons_succ]
              refine lex_call (f := 8) (args := ?_) rfl rfl (fun w' hf => ?_) (fun w' hf => ?_) ?_
              rotate_left
              · go_simp
                try rfl
              · exact HOo.out w'
              try simp only [Act.put, List.setIfInBounds_toArray, List.set_cons_zero, List.set_cons_succ]
              refine lex_val (v := .agg YR) rfl rfl (fun w' hf => exec_load_row _ (.tmp 2) rfl rfl (HXy.out w' hf.only) under_cr rfl (by rw [zY]; exact info_cr)) ?_
              try simp only [Act.put, List.setIfInBounds_toArray, List.set_cons_zero, List.set_cons_succ]
              refine lex_call (f := 8) (args := ?_) rfl rfl (fun w' hf => ?_) (fun w' hf => ?_) ?_
              rotate_left
              · go_simp
                try rfl
              · exact HOy.out w'
              try simp only [Act.put, List.setIfInBounds_toArray, List.set_cons_zero, List.set_cons_succ]
              --#e1
              refine lex_call (f := 9) (args := ?_) rfl rfl (fun w' hf => ?_) (fun w' hf => ?_) ?_
              rotate_left
              · go_simp
                try rfl
              · exact HCu.out w' (hT.out.next (HTt.out w' hf.only)) (hF.out.next (HTt.out w' hf.only)) (hN.out.next (HTt.out w' hf.only))
              try simp only [Act.put, List.setIfInBounds_toArray, List.set_cons_zero, List.set_cons_succ]
              refine lex_call (f := 11) (args := ?_) rfl rfl (fun w' hf => ?_) (fun w' hf => ?_) ?_
              rotate_left
              · go_simp
                try rfl
              · exact HSc.out w' (hT.out.next (HTt.out w' hf.only)) (hF.out.next (HTt.out w' hf.only)) (hBl.out.next (HTt.out w' hf.only))
              try simp only [Act.put, List.setIfInBounds_toArray, List.set_cons_zero, List.set_cons_succ]
              --#e2
              iterate 3 (
                refine lex_val (v := ?_) rfl rfl (fun w' hf => ?_) ?_
                rotate_left
                · skip; go_simp
                  try rfl
                try simp only [Act.put, List.setIfInBounds_toArray, List.set_cons_zero, List.set_cons_succ])
              refine lex_alloc rfl rfl (fun w' => ?_) ?_
              · unfold zO
                go_simp
                try rfl
              try simp only [Act.put, List.setIfInBounds_toArray, List.set_cons_zero, List.set_cons_succ]
              refine lex_init rfl rfl rfl (fun bl w' hb hf hB => ⟨_, exec_store_row 45 (.tmp 7) (.tmp 77) rfl hb rfl hB (by rw [zV]; exact info_co) (by rw [zV]; rfl) oV, row_repl hB _⟩) ?_
              try simp only [Act.put]
              repeat (
                refine lex_val (v := ?_) rfl rfl (fun w' hf => ?_) ?_
                rotate_left
                · go_simp
                  try rfl
                try simp only [Act.put, List.setIfInBounds_toArray, List.set_cons_zero, List.set_cons_succ])
              refine lex_nil fun w10 he => ?_
              obtain ⟨b7, hb7, hge, hB7⟩ := he.facts 9
              have H10 := Lib.hid (Bs.made H9.out he.only hge hB7)
              rw [hb7]
              clear hb7 he hβ HXo HXy HTt hge hB7 H9 HSc HCu
              --#f
              go_upto_region 18 with (first | (refine wpList_load_row rfl _ _ rfl (w.heap.size + 1) rfl _ OR (0, 0) _ H10.out.b1 under_cr rfl (by rw [zO']; exact info_cr) ?_) | (refine wpList_store_row rfl _ _ _ rfl w10.heap.size OR rfl rfl _ _ (Blk.new w10 _ _) (by rw [zO']; exact info_cr) (by rw [zO']; rfl) oO ?_))
              have H11 := Lib.hid (H10.out.alloc 33 OR)
              refine world_gen (fun V => Bs w [(w10.heap.size, 33, coC .i64 o), (b7, 45, WU), (w.heap.size + 1, 33, OR), (w.heap.size, 33, coC .i64 y)] V) (by rw [World.setRow_alloc_new, ← hOR.out, ← hYR.out]; exact H11.out) ?_
              clear H10 H11
              intro w11 H11
              generalize w10.heap.size = b9 at *
              replace H11 := Lib.hid H11
              have hne1 : (b9 = w.heap.size) = False := eq_false (fun e => by have := H11.out.2.1; simp [List.pairwise_cons] at this; exact this.1.2.2 e)
              have hne2 : (w.heap.size = b9) = False := eq_false (fun e => by rw [← hne1]; exact e.symm)
              have c0 : w11.cell? ⟨w.heap.size, 0, none⟩ = some (.int .i64 y.r) := Blk.cell H11.out.b3 0
              have c1 : w11.cell? ⟨w.heap.size, 1, none⟩ = some (.int .i64 y.c) := Blk.cell H11.out.b3 1
              have c2 : w11.cell? ⟨w.heap.size, 2, none⟩ = some (.int .u8 y.K.rd) := Blk.cell H11.out.b3 2
              have c3 : w11.cell? ⟨w.heap.size, 3, none⟩ = some (.bool y.K.kp) := Blk.cell H11.out.b3 3
              have c4 : w11.cell? ⟨w.heap.size, 4, none⟩ = some (.bool y.wp) := Blk.cell H11.out.b3 4
              have c5 : w11.cell? ⟨w.heap.size, 5, none⟩ = some (.bool y.K.og) := Blk.cell H11.out.b3 5
              have c6 : w11.cell? ⟨w.heap.size, 6, none⟩ = some (.int .i64 y.K.a) := Blk.cell H11.out.b3 6
              have c7 : w11.cell? ⟨w.heap.size, 7, none⟩ = some (.int .i64 y.K.b) := Blk.cell H11.out.b3 7
              have c8 : w11.cell? ⟨w.heap.size, 8, none⟩ = some (.int .i64 y.K.c) := Blk.cell H11.out.b3 8
              have c9 : w11.cell? ⟨w.heap.size, 9, none⟩ = some (.int .i64 y.K.d) := Blk.cell H11.out.b3 9
              have c10 : w11.cell? ⟨w.heap.size, 10, none⟩ = some (.int .i64 y.K.l) := Blk.cell H11.out.b3 10
              have c11 : w11.cell? ⟨w.heap.size, 11, none⟩ = some (.int .i64 y.K.r) := Blk.cell H11.out.b3 11
              have c12 : w11.cell? ⟨w.heap.size, 12, none⟩ = some (.int .i64 y.K.s) := Blk.cell H11.out.b3 12
              have c27 : w11.cell? ⟨w.heap.size, 27, none⟩ = some (.int .i64 y.pg) := Blk.cell H11.out.b3 27
              have d0 : w11.cell? ⟨b9, 0, none⟩ = some (.int .i64 o.r) := Blk.cell H11.out.b0 0
              have d1 : w11.cell? ⟨b9, 1, none⟩ = some (.int .i64 o.c) := Blk.cell H11.out.b0 1
              have d2 : w11.cell? ⟨b9, 2, none⟩ = some (.int .u8 o.K.rd) := Blk.cell H11.out.b0 2
              have d3 : w11.cell? ⟨b9, 3, none⟩ = some (.bool o.K.kp) := Blk.cell H11.out.b0 3
              have d4 : w11.cell? ⟨b9, 4, none⟩ = some (.bool o.wp) := Blk.cell H11.out.b0 4
              have d5 : w11.cell? ⟨b9, 5, none⟩ = some (.bool o.K.og) := Blk.cell H11.out.b0 5
              have d6 : w11.cell? ⟨b9, 6, none⟩ = some (.int .i64 o.K.a) := Blk.cell H11.out.b0 6
              have d7 : w11.cell? ⟨b9, 7, none⟩ = some (.int .i64 o.K.b) := Blk.cell H11.out.b0 7
              have d8 : w11.cell? ⟨b9, 8, none⟩ = some (.int .i64 o.K.c) := Blk.cell H11.out.b0 8
              have d9 : w11.cell? ⟨b9, 9, none⟩ = some (.int .i64 o.K.d) := Blk.cell H11.out.b0 9
              have d10 : w11.cell? ⟨b9, 10, none⟩ = some (.int .i64 o.K.l) := Blk.cell H11.out.b0 10
              have d11 : w11.cell? ⟨b9, 11, none⟩ = some (.int .i64 o.K.r) := Blk.cell H11.out.b0 11
              have d12 : w11.cell? ⟨b9, 12, none⟩ = some (.int .i64 o.K.s) := Blk.cell H11.out.b0 12
              have d27 : w11.cell? ⟨b9, 27, none⟩ = some (.int .i64 o.pg) := Blk.cell H11.out.b0 27
              have f0 : w11.frozen? ⟨b9, 0, none⟩ = false := Blk.frozen H11.out.b0 0
              have f1 : w11.frozen? ⟨b9, 1, none⟩ = false := Blk.frozen H11.out.b0 1
              have f2 : w11.frozen? ⟨b9, 2, none⟩ = false := Blk.frozen H11.out.b0 2
              have f3 : w11.frozen? ⟨b9, 3, none⟩ = false := Blk.frozen H11.out.b0 3
              have f4 : w11.frozen? ⟨b9, 4, none⟩ = false := Blk.frozen H11.out.b0 4
              have f5 : w11.frozen? ⟨b9, 5, none⟩ = false := Blk.frozen H11.out.b0 5
              have f6 : w11.frozen? ⟨b9, 6, none⟩ = false := Blk.frozen H11.out.b0 6
              have f7 : w11.frozen? ⟨b9, 7, none⟩ = false := Blk.frozen H11.out.b0 7
              have f8 : w11.frozen? ⟨b9, 8, none⟩ = false := Blk.frozen H11.out.b0 8
              have f9 : w11.frozen? ⟨b9, 9, none⟩ = false := Blk.frozen H11.out.b0 9
              have f10 : w11.frozen? ⟨b9, 10, none⟩ = false := Blk.frozen H11.out.b0 10
              have f11 : w11.frozen? ⟨b9, 11, none⟩ = false := Blk.frozen H11.out.b0 11
              have f12 : w11.frozen? ⟨b9, 12, none⟩ = false := Blk.frozen H11.out.b0 12
              have f27 : w11.frozen? ⟨b9, 27, none⟩ = false := Blk.frozen H11.out.b0 27
              --#g
              have HQ : Hid (Bs w [(b9, 33, coC .i64 (coW o y)), (b7, 45, WU), (w.heap.size + 1, 33, OR), (w.heap.size, 33, coC .i64 y)] ((((((((((((((w11.setCell ⟨b9, 0, none⟩ (.int .i64 y.r)).setCell ⟨b9, 1, none⟩ (.int .i64 y.c)).setCell ⟨b9, 2, none⟩ (.int .u8 y.K.rd)).setCell ⟨b9, 3, none⟩ (.bool y.K.kp)).setCell ⟨b9, 4, none⟩ (.bool y.wp)).setCell ⟨b9, 5, none⟩ (.bool y.K.og)).setCell ⟨b9, 6, none⟩ (.int .i64 y.K.a)).setCell ⟨b9, 7, none⟩ (.int .i64 y.K.b)).setCell ⟨b9, 8, none⟩ (.int .i64 y.K.c)).setCell ⟨b9, 9, none⟩ (.int .i64 y.K.d)).setCell ⟨b9, 10, none⟩ (.int .i64 y.K.l)).setCell ⟨b9, 11, none⟩ (.int .i64 y.K.r)).setCell ⟨b9, 12, none⟩ (.int .i64 y.K.s)).setCell ⟨b9, 27, none⟩ (.int .i64 y.pg))) := Lib.hid (by have HH := ((((((((((((((H11.out.s0 0 (.int .i64 y.r)).s0 1 (.int .i64 y.c)).s0 2 (.int .u8 y.K.rd)).s0 3 (.bool y.K.kp)).s0 4 (.bool y.wp)).s0 5 (.bool y.K.og)).s0 6 (.int .i64 y.K.a)).s0 7 (.int .i64 y.K.b)).s0 8 (.int .i64 y.K.c)).s0 9 (.int .i64 y.K.d)).s0 10 (.int .i64 y.K.l)).s0 11 (.int .i64 y.K.r)).s0 12 (.int .i64 y.K.s)).s0 27 (.int .i64 y.pg)); unfold coC at HH; simp only [List.setIfInBounds_toArray, List.set_cons_zero, List.set_cons_succ] at HH; exact HH)
              try simp only [Act.put]
              go_cut [9] (fun sl wx => sl = .pointer (some ⟨b9, 0, none⟩) ∧ Bs w [(b9, 33, coC .i64 (coW o y)), (b7, 45, WU), (w.heap.size + 1, 33, OR), (w.heap.size, 33, coC .i64 y)] wx)
              case first =>
                --#g1
                go_region
                all_goals
                  go_wp2_with fail
                  go_meet
                  exact ⟨rfl, HQ.out.drewB⟩
              case rest =>
                obtain ⟨rfl, H12⟩ := hcut
                rename World => w12
                replace H12 : Bs w [(b9, 33, WR), (b7, 45, WU), (w.heap.size + 1, 33, OR), (w.heap.size, 33, YR)] w12 := by rw [hWR.out, hYR.out]; exact H12
                replace H12 := Lib.hid H12
                clear HQ H11 hne1 hne2 c0 c1 c2 c3 c4 c5 c6 c7 c8 c9 c10 c11 c12 c27 d0 d1 d2 d3 d4 d5 d6 d7 d8 d9 d10 d11 d12 d27 f0 f1 f2 f3 f4 f5 f6 f7 f8 f9 f10 f11 f12 f27
                have HXb := Lib.hid (fun w' (h : Only [] w12 w') => h.blk H12.out.b1 (by simp)); have HXw := Lib.hid (fun w' (h : Only [] w12 w') => h.blk H12.out.b0 (by simp))
                --#h
                go_upto_region 19 with fail
                refine wp_region_mix_lit (by kernel_rfl) [(4, .call (.agg WR))] (by kernel_rfl) (by kernel_rfl) (by kernel_rfl) (by rfl) (by simp [apartK] <;> omega) (by simp [startK]) (by simp [stabK]) (⟨fun _ => undef, by simp [okK]⟩) (fun β hβ => ?_)
                iterate 3 (
                  refine lex_val (v := ?_) rfl rfl (fun w' hf => ?_) ?_
                  rotate_left
                  · skip; go_simp
                    try rfl
                  try simp only [Act.put, List.setIfInBounds_toArray, List.set_cons_zero, List.set_cons_succ])
                refine lex_val (v := .agg WU) rfl rfl (fun w' hf => exec_load_row _ (.tmp 7) rfl rfl (HXb.out w' hf.only) under_co rfl (by rw [zV]; exact info_co)) ?_
                try simp only [Act.put, List.setIfInBounds_toArray, List.set_cons_zero, List.set_cons_succ]
                refine lex_call (f := 13) (args := ?_) rfl rfl (fun w' hf => ?_) (fun w' hf => ?_) ?_
                rotate_left
                · go_simp
                  try rfl
                · exact HTw.out w'
                try simp only [Act.put, List.setIfInBounds_toArray, List.set_cons_zero, List.set_cons_succ]
                refine lex_val (v := .agg WR) rfl rfl (fun w' hf => exec_load_row _ (.tmp 9) rfl rfl (HXw.out w' hf.only) under_cr rfl (by rw [zW]; exact info_cr)) ?_
                try simp only [Act.put, List.setIfInBounds_toArray, List.set_cons_zero, List.set_cons_succ]
                refine lex_val (v := .bool false) rfl rfl (fun w' hf => exec_eqA .neq _ (.tmp 90) (.tmp 91) _ rfl rfl rfl (G1.out w' _ _ _) (E1.out w')) ?_
                try simp only [Act.put, List.setIfInBounds_toArray, List.set_cons_zero, List.set_cons_succ]
                repeat (
                  refine lex_val (v := ?_) rfl rfl (fun w' hf => ?_) ?_
                  rotate_left
                  · go_simp
                    try rfl
                  try simp only [Act.put, List.setIfInBounds_toArray, List.set_cons_zero, List.set_cons_succ])
                refine lex_nil fun w13 he => ?_
                have H13 := Lib.hid ((H12.out.only he.only).tl.tl)
                clear he hβ HXb HXw H12 E1 G1 HTw
                --#i
                go_upto_region 21 with fail
                have HXo := Lib.hid (fun w' (h : Only [] w13 w') => h.blk H13.out.b0 (by simp)); have HXy := Lib.hid (fun w' (h : Only [] w13 w') => h.blk H13.out.b1 (by simp))
                have HTt := Lib.hid (fun w' (h : Only [] w13 w') => (H13.out.only h).bel)
                --#j
                refine wp_region_mix_lit (by kernel_rfl) [(1, .call (.agg OU)), (3, .call (.agg YU)), (4, .call (.string jr)), (5, .call (.tuple #[.agg AU, .int .i64 0])), (9, .alloc 10 45 (zO .u32) (fun _ => AU)), (10, .init 9)] (by kernel_rfl) (by kernel_rfl) (by kernel_rfl) (by rfl) (by simp [apartK] <;> omega) (by simp [startK]) (by simp [stabK]) (⟨fun i => .pointer (some ⟨w13.heap.size, 0, none⟩), by simp only [List.forall_mem_cons]; exact ⟨trivial, trivial, trivial, trivial, ⟨_, rfl, Nat.le_refl _⟩, trivial, by simp⟩⟩) (fun β hβ => ?_)
                refine lex_val (v := .agg OR) rfl rfl (fun w' hf => exec_load_row _ (.tmp 3) rfl rfl (HXo.out w' hf.only) under_cr rfl (by rw [zO']; exact info_cr)) ?_
                try simp only [Act.put, List.setIfInBounds_toArray, List.set_cons_zero, List.set_cons_succ]
                refine lex_call (f := 8) (args := ?_) rfl rfl (fun w' hf => ?_) (fun w' hf => ?_) ?_
                rotate_left
                · go_simp
                  try rfl
                · exact HOo.out w'
                try simp only [Act.put, List.setIfInBounds_toArray, List.set_cons_zero, List.set_cons_succ]
                refine lex_val (v := .agg YR) rfl rfl (fun w' hf => exec_load_row _ (.tmp 2) rfl rfl (HXy.out w' hf.only) under_cr rfl (by rw [zY]; exact info_cr)) ?_
                try simp only [Act.put, List.setIfInBounds_toArray, List.set_cons_zero, List.set_cons_succ]
                refine lex_call (f := 8) (args := ?_) rfl rfl (fun w' hf => ?_) (fun w' hf => ?_) ?_
                rotate_left
                · go_simp
                  try rfl
                · exact HOy.out w'
                try simp only [Act.put, List.setIfInBounds_toArray, List.set_cons_zero, List.set_cons_succ]
                --#j1
                refine lex_call (f := 16) (args := ?_) rfl rfl (fun w' hf => ?_) (fun w' hf => ?_) ?_
                rotate_left
                · go_simp
                  try rfl
                · exact HRp.out w' (hT.out.next (HTt.out w' hf.only)) (hF.out.next (HTt.out w' hf.only)) (hN.out.next (HTt.out w' hf.only))
                try simp only [Act.put, List.setIfInBounds_toArray, List.set_cons_zero, List.set_cons_succ]
                refine lex_call (f := 15) (args := ?_) rfl rfl (fun w' hf => ?_) (fun w' hf => ?_) ?_
                rotate_left
                · go_simp
                  try rfl
                · exact HRs.out w' (hT.out.next (HTt.out w' hf.only)) (hF.out.next (HTt.out w' hf.only))
                try simp only [Act.put, List.setIfInBounds_toArray, List.set_cons_zero, List.set_cons_succ]
                --#j2
                iterate 3 (
                  refine lex_val (v := ?_) rfl rfl (fun w' hf => ?_) ?_
                  rotate_left
                  · skip; go_simp
                    try rfl
                  try simp only [Act.put, List.setIfInBounds_toArray, List.set_cons_zero, List.set_cons_succ])
                refine lex_alloc rfl rfl (fun w' => ?_) ?_
                · unfold zO
                  go_simp
                  try rfl
                try simp only [Act.put, List.setIfInBounds_toArray, List.set_cons_zero, List.set_cons_succ]
                refine lex_init rfl rfl rfl (fun bl w' hb hf hB => ⟨_, exec_store_row 45 (.tmp 10) (.tmp 101) rfl hb rfl hB (by rw [zB]; exact info_co) (by rw [zB]; rfl) oB, row_repl hB _⟩) ?_
                try simp only [Act.put]
                repeat (
                  refine lex_val (v := ?_) rfl rfl (fun w' hf => ?_) ?_
                  rotate_left
                  · go_simp
                    try rfl
                  try simp only [Act.put, List.setIfInBounds_toArray, List.set_cons_zero, List.set_cons_succ])
                refine lex_nil fun w14 he => ?_
                obtain ⟨b8, hb8, hge, hB8⟩ := he.facts 9
                have H14 := Lib.hid (Bs.made H13.out he.only hge hB8)
                rw [hb8]
                clear hb8 he hβ HXo HXy HTt hge hB8 H13 HRs HRp
                --#k
                go_upto_region 23 with (first | (refine wpList_load_row rfl _ _ rfl w.heap.size rfl _ YR (0, 0) _ H14.out.b2 under_cr rfl (by rw [zY]; exact info_cr) ?_) | (refine wpList_store_row rfl _ _ _ rfl w14.heap.size YR rfl rfl _ _ (Blk.new w14 _ _) (by rw [zY]; exact info_cr) (by rw [zY]; rfl) oY ?_))
                have H15 := Lib.hid (H14.out.alloc 33 YR)
                refine world_gen (fun V => Bs w [(w14.heap.size, 33, coC .i64 y), (b8, 45, AU), (w.heap.size + 1, 33, coC .i64 o), (w.heap.size, 33, coC .i64 y)] V) (by rw [World.setRow_alloc_new, ← hOR.out, ← hYR.out]; exact H15.out) ?_
                clear H14 H15
                intro w15 H15
                generalize w14.heap.size = b6 at *
                replace H15 := Lib.hid H15
                have hne1 : (b6 = w.heap.size + 1) = False := eq_false (fun e => by have := H15.out.2.1; simp [List.pairwise_cons] at this; exact this.1.2.1 e)
                have hne2 : (w.heap.size + 1 = b6) = False := eq_false (fun e => by rw [← hne1]; exact e.symm)
                have hne3 : (b6 = w.heap.size) = False := eq_false (fun e => by have := H15.out.2.1; simp [List.pairwise_cons] at this; exact this.1.2.2 e)
                have hne4 : (w.heap.size = b6) = False := eq_false (fun e => by rw [← hne3]; exact e.symm)
                have c0 : w15.cell? ⟨(w.heap.size + 1), 0, none⟩ = some (.int .i64 o.r) := Blk.cell H15.out.b2 0
                have c1 : w15.cell? ⟨(w.heap.size + 1), 1, none⟩ = some (.int .i64 o.c) := Blk.cell H15.out.b2 1
                have c2 : w15.cell? ⟨(w.heap.size + 1), 2, none⟩ = some (.int .u8 o.K.rd) := Blk.cell H15.out.b2 2
                have c3 : w15.cell? ⟨(w.heap.size + 1), 3, none⟩ = some (.bool o.K.kp) := Blk.cell H15.out.b2 3
                have c4 : w15.cell? ⟨(w.heap.size + 1), 4, none⟩ = some (.bool o.wp) := Blk.cell H15.out.b2 4
                have c5 : w15.cell? ⟨(w.heap.size + 1), 5, none⟩ = some (.bool o.K.og) := Blk.cell H15.out.b2 5
                have c6 : w15.cell? ⟨(w.heap.size + 1), 6, none⟩ = some (.int .i64 o.K.a) := Blk.cell H15.out.b2 6
                have c7 : w15.cell? ⟨(w.heap.size + 1), 7, none⟩ = some (.int .i64 o.K.b) := Blk.cell H15.out.b2 7
                have c8 : w15.cell? ⟨(w.heap.size + 1), 8, none⟩ = some (.int .i64 o.K.c) := Blk.cell H15.out.b2 8
                have c9 : w15.cell? ⟨(w.heap.size + 1), 9, none⟩ = some (.int .i64 o.K.d) := Blk.cell H15.out.b2 9
                have c10 : w15.cell? ⟨(w.heap.size + 1), 10, none⟩ = some (.int .i64 o.K.l) := Blk.cell H15.out.b2 10
                have c11 : w15.cell? ⟨(w.heap.size + 1), 11, none⟩ = some (.int .i64 o.K.r) := Blk.cell H15.out.b2 11
                have c12 : w15.cell? ⟨(w.heap.size + 1), 12, none⟩ = some (.int .i64 o.K.s) := Blk.cell H15.out.b2 12
                have c27 : w15.cell? ⟨(w.heap.size + 1), 27, none⟩ = some (.int .i64 o.pg) := Blk.cell H15.out.b2 27
                have d0 : w15.cell? ⟨b6, 0, none⟩ = some (.int .i64 y.r) := Blk.cell H15.out.b0 0
                have d1 : w15.cell? ⟨b6, 1, none⟩ = some (.int .i64 y.c) := Blk.cell H15.out.b0 1
                have d2 : w15.cell? ⟨b6, 2, none⟩ = some (.int .u8 y.K.rd) := Blk.cell H15.out.b0 2
                have d3 : w15.cell? ⟨b6, 3, none⟩ = some (.bool y.K.kp) := Blk.cell H15.out.b0 3
                have d4 : w15.cell? ⟨b6, 4, none⟩ = some (.bool y.wp) := Blk.cell H15.out.b0 4
                have d5 : w15.cell? ⟨b6, 5, none⟩ = some (.bool y.K.og) := Blk.cell H15.out.b0 5
                have d6 : w15.cell? ⟨b6, 6, none⟩ = some (.int .i64 y.K.a) := Blk.cell H15.out.b0 6
                have d7 : w15.cell? ⟨b6, 7, none⟩ = some (.int .i64 y.K.b) := Blk.cell H15.out.b0 7
                have d8 : w15.cell? ⟨b6, 8, none⟩ = some (.int .i64 y.K.c) := Blk.cell H15.out.b0 8
                have d9 : w15.cell? ⟨b6, 9, none⟩ = some (.int .i64 y.K.d) := Blk.cell H15.out.b0 9
                have d10 : w15.cell? ⟨b6, 10, none⟩ = some (.int .i64 y.K.l) := Blk.cell H15.out.b0 10
                have d11 : w15.cell? ⟨b6, 11, none⟩ = some (.int .i64 y.K.r) := Blk.cell H15.out.b0 11
                have d12 : w15.cell? ⟨b6, 12, none⟩ = some (.int .i64 y.K.s) := Blk.cell H15.out.b0 12
                have d27 : w15.cell? ⟨b6, 27, none⟩ = some (.int .i64 y.pg) := Blk.cell H15.out.b0 27
                have f0 : w15.frozen? ⟨b6, 0, none⟩ = false := Blk.frozen H15.out.b0 0
                have f1 : w15.frozen? ⟨b6, 1, none⟩ = false := Blk.frozen H15.out.b0 1
                have f2 : w15.frozen? ⟨b6, 2, none⟩ = false := Blk.frozen H15.out.b0 2
                have f3 : w15.frozen? ⟨b6, 3, none⟩ = false := Blk.frozen H15.out.b0 3
                have f4 : w15.frozen? ⟨b6, 4, none⟩ = false := Blk.frozen H15.out.b0 4
                have f5 : w15.frozen? ⟨b6, 5, none⟩ = false := Blk.frozen H15.out.b0 5
                have f6 : w15.frozen? ⟨b6, 6, none⟩ = false := Blk.frozen H15.out.b0 6
                have f7 : w15.frozen? ⟨b6, 7, none⟩ = false := Blk.frozen H15.out.b0 7
                have f8 : w15.frozen? ⟨b6, 8, none⟩ = false := Blk.frozen H15.out.b0 8
                have f9 : w15.frozen? ⟨b6, 9, none⟩ = false := Blk.frozen H15.out.b0 9
                have f10 : w15.frozen? ⟨b6, 10, none⟩ = false := Blk.frozen H15.out.b0 10
                have f11 : w15.frozen? ⟨b6, 11, none⟩ = false := Blk.frozen H15.out.b0 11
                have f12 : w15.frozen? ⟨b6, 12, none⟩ = false := Blk.frozen H15.out.b0 12
                have f27 : w15.frozen? ⟨b6, 27, none⟩ = false := Blk.frozen H15.out.b0 27
                --#l
                have HQ : Hid (Bs w [(b6, 33, coC .i64 (coW y o)), (b8, 45, AU), (w.heap.size + 1, 33, coC .i64 o), (w.heap.size, 33, coC .i64 y)] ((((((((((((((w15.setCell ⟨b6, 0, none⟩ (.int .i64 o.r)).setCell ⟨b6, 1, none⟩ (.int .i64 o.c)).setCell ⟨b6, 2, none⟩ (.int .u8 o.K.rd)).setCell ⟨b6, 3, none⟩ (.bool o.K.kp)).setCell ⟨b6, 4, none⟩ (.bool o.wp)).setCell ⟨b6, 5, none⟩ (.bool o.K.og)).setCell ⟨b6, 6, none⟩ (.int .i64 o.K.a)).setCell ⟨b6, 7, none⟩ (.int .i64 o.K.b)).setCell ⟨b6, 8, none⟩ (.int .i64 o.K.c)).setCell ⟨b6, 9, none⟩ (.int .i64 o.K.d)).setCell ⟨b6, 10, none⟩ (.int .i64 o.K.l)).setCell ⟨b6, 11, none⟩ (.int .i64 o.K.r)).setCell ⟨b6, 12, none⟩ (.int .i64 o.K.s)).setCell ⟨b6, 27, none⟩ (.int .i64 o.pg))) := Lib.hid (by have HH := ((((((((((((((H15.out.s0 0 (.int .i64 o.r)).s0 1 (.int .i64 o.c)).s0 2 (.int .u8 o.K.rd)).s0 3 (.bool o.K.kp)).s0 4 (.bool o.wp)).s0 5 (.bool o.K.og)).s0 6 (.int .i64 o.K.a)).s0 7 (.int .i64 o.K.b)).s0 8 (.int .i64 o.K.c)).s0 9 (.int .i64 o.K.d)).s0 10 (.int .i64 o.K.l)).s0 11 (.int .i64 o.K.r)).s0 12 (.int .i64 o.K.s)).s0 27 (.int .i64 o.pg)); unfold coC at HH; simp only [List.setIfInBounds_toArray, List.set_cons_zero, List.set_cons_succ] at HH; exact HH)
                try simp only [Act.put]
                go_cut [11] (fun sl wx => sl = .pointer (some ⟨b6, 0, none⟩) ∧ Bs w [(b6, 33, coC .i64 (coW y o)), (b8, 45, AU), (w.heap.size + 1, 33, coC .i64 o), (w.heap.size, 33, coC .i64 y)] wx)
                case first =>
                  --#l1
                  go_region
                  all_goals
                    go_wp2_with fail
                    go_meet
                    exact ⟨rfl, HQ.out.drewB⟩
                case rest =>
                  obtain ⟨rfl, H16⟩ := hcut
                  rename World => w16
                  replace H16 := Lib.hid H16
                  clear HQ H15 c0 c1 c2 c3 c4 c5 c6 c7 c8 c9 c10 c11 c12 c27 d0 d1 d2 d3 d4 d5 d6 d7 d8 d9 d10 d11 d12 d27 f0 f1 f2 f3 f4 f5 f6 f7 f8 f9 f10 f11 f12 f27
                  have n5 : w16.cell? ⟨b6, 5, none⟩ = some (.bool o.K.og) := Blk.cell H16.out.b0 5
                  have z5 : w16.frozen? ⟨b6, 5, none⟩ = false := H16.out.b0.frozen 5
                  have y5 : w16.cell? ⟨w.heap.size, 5, none⟩ = some (.bool y.K.og) := Blk.cell H16.out.b3 5
                  --#m
                  go_upto_region 25 with fail
                  refine world_gen (fun V => Bs w [(b6, 33, AR), (b8, 45, AU), (w.heap.size + 1, 33, coC .i64 o), (w.heap.size, 33, coC .i64 y)] V) (by rw [hAR.out]; have HH := H16.out.s0 5 (.bool y.K.og); unfold coC at HH; simp only [List.setIfInBounds_toArray, List.set_cons_zero, List.set_cons_succ] at HH; exact HH) ?_
                  clear H16 n5 z5 y5 hne1 hne2 hne3 hne4
                  intro w17 H17
                  replace H17 := Lib.hid H17
                  have HXb := Lib.hid (fun w' (h : Only [] w17 w') => h.blk H17.out.b1 (by simp)); have HXw := Lib.hid (fun w' (h : Only [] w17 w') => h.blk H17.out.b0 (by simp))
                  --#n
                  refine wp_region_mix_lit (by kernel_rfl) [(4, .call (.agg AR))] (by kernel_rfl) (by kernel_rfl) (by kernel_rfl) (by rfl) (by simp [apartK] <;> omega) (by simp [startK]) (by simp [stabK]) (⟨fun _ => undef, by simp [okK]⟩) (fun β hβ => ?_)
                  iterate 3 (
                    refine lex_val (v := ?_) rfl rfl (fun w' hf => ?_) ?_
                    rotate_left
                    · skip; go_simp
                      try rfl
                    try simp only [Act.put, List.setIfInBounds_toArray, List.set_cons_zero, List.set_cons_succ])
                  refine lex_val (v := .agg AU) rfl rfl (fun w' hf => exec_load_row _ (.tmp 10) rfl rfl (HXb.out w' hf.only) under_co rfl (by rw [zB]; exact info_co)) ?_
                  try simp only [Act.put, List.setIfInBounds_toArray, List.set_cons_zero, List.set_cons_succ]
                  refine lex_call (f := 13) (args := ?_) rfl rfl (fun w' hf => ?_) (fun w' hf => ?_) ?_
                  rotate_left
                  · go_simp
                    try rfl
                  · exact HTa.out w'
                  try simp only [Act.put, List.setIfInBounds_toArray, List.set_cons_zero, List.set_cons_succ]
                  refine lex_val (v := .agg AR) rfl rfl (fun w' hf => exec_load_row _ (.tmp 11) rfl rfl (HXw.out w' hf.only) under_cr rfl (by rw [zA]; exact info_cr)) ?_
                  try simp only [Act.put, List.setIfInBounds_toArray, List.set_cons_zero, List.set_cons_succ]
                  refine lex_val (v := .bool true) rfl rfl (fun w' hf => exec_eqA .eql _ (.tmp 119) (.tmp 120) _ rfl rfl rfl (G2.out w' _ _ _) (E2.out w')) ?_
                  try simp only [Act.put, List.setIfInBounds_toArray, List.set_cons_zero, List.set_cons_succ]
                  repeat (
                    refine lex_val (v := ?_) rfl rfl (fun w' hf => ?_) ?_
                    rotate_left
                    · go_simp
                      try rfl
                    try simp only [Act.put, List.setIfInBounds_toArray, List.set_cons_zero, List.set_cons_succ])
                  refine lex_nil fun w18 he => ?_
                  have H18 := Lib.hid (H17.out.only he.only).bel
                  clear he hβ HXb HXw H17 E2 G2 HTa
                  --#o
                  go_wp2_with fail
                  go_ret
                  exact ⟨rfl, H18.out⟩
          · have g0 : (z.K.r = 0) = False := eq_false h0
            have g0b : (z.K.r == 0) = false := beq_eq_false_iff_ne.2 h0
            have hM5 : Hid (coM z = coR (coG z (fxS 0 z.K.a) (fxS 1 z.K.b) (fxS 2 z.K.c) (fxS 3 z.K.d)) z.K.r) := Lib.hid (by unfold coM; rw [if_neg h0])
            clear h0
            go_upto_region 13 with fail
            refine world_gen (fun V => Bs w [(w.heap.size, 33, coC .i64 (coM z)), (w.heap.size + 1, 33, X')] V) (by rw [hM5.out]; exact hB.out) ?_
            clear c11 f11 g0 g0b hM5 hB
            intro w4 H4
            replace H4 := Lib.hid H4
            obtain ⟨MR, hMR⟩ : ∃ R, R = coC .i64 (coM z) := ⟨_, rfl⟩
            obtain ⟨YR, hYR⟩ : ∃ R, R = coC .i64 y := ⟨_, rfl⟩
            obtain ⟨YU, hYU⟩ : ∃ R, R = coC .u32 y := ⟨_, rfl⟩
            obtain ⟨OR, hOR⟩ : ∃ R, R = coC .i64 o := ⟨_, rfl⟩
            obtain ⟨OU, hOU⟩ : ∃ R, R = coC .u32 o := ⟨_, rfl⟩
            obtain ⟨PR, hPR⟩ : ∃ R, R = coC .i64 (coP z' y) := ⟨_, rfl⟩
            obtain ⟨WR, hWR⟩ : ∃ R, R = coC .i64 (coW o y) := ⟨_, rfl⟩
            obtain ⟨WU, hWU⟩ : ∃ R, R = coC .u32 (coW o y) := ⟨_, rfl⟩
            obtain ⟨AR, hAR⟩ : ∃ R, R = coC .i64 (coA y o) := ⟨_, rfl⟩
            obtain ⟨AU, hAU⟩ : ∃ R, R = coC .u32 (coA y o) := ⟨_, rfl⟩
            have E1 := Lib.hid (fun V => neq_co V (coW o y)); have G1 := Lib.hid (fun V op p p2 => guard_co V op p p2 (coW o y) (coW o y))
            have E2 := Lib.hid (fun V => eql_co V (coA y o)); have G2 := Lib.hid (fun V op p p2 => guard_co V op p p2 (coA y o) (coA y o))
            unfold coV at E1 G1 E2 G2
            have zM : MR.size = 29 := by rw [hMR]; exact coS _ _
            have zY : YR.size = 29 := by rw [hYR]; exact coS _ _
            have zO' : OR.size = 29 := by rw [hOR]; exact coS _ _
            have zP : PR.size = 29 := by rw [hPR]; exact coS _ _
            have zW : WR.size = 29 := by rw [hWR]; exact coS _ _
            have zV : WU.size = 29 := by rw [hWU]; exact coS _ _
            have zA : AR.size = 29 := by rw [hAR]; exact coS _ _
            have zB : AU.size = 29 := by rw [hAU]; exact coS _ _
            have oY : YR.all (·.oneCell') = true := by rw [hYR]; exact co_one _ _
            have oO : OR.all (·.oneCell') = true := by rw [hOR]; exact co_one _ _
            have oV : WU.all (·.oneCell') = true := by rw [hWU]; exact co_one _ _
            have oB : AU.all (·.oneCell') = true := by rw [hAU]; exact co_one _ _
            rw [← hMR] at H4 HCy
            rw [← hYR] at HCy HOy
            rw [← hYU] at HOy HCu HRp
            rw [← hPR] at HCo
            rw [← hOR] at HCo HOo
            rw [← hOU] at HOo HSc HRs
            rw [← hWU] at HSc HTw
            rw [← hWR] at HTw E1 G1
            rw [← hAU] at HRs HTa
            rw [← hAR] at HTa E2 G2
            replace hYR := Lib.hid hYR; replace hOR := Lib.hid hOR; replace hPR := Lib.hid hPR; replace hWR := Lib.hid hWR; replace hAR := Lib.hid hAR
            clear hMR hYU hOU hWU hAU
            --#29
            go_wp2_with (first | (refine wpList_load_row rfl _ _ rfl w.heap.size rfl _ MR (0, 0) _ H4.out.b0 under_cr rfl (by rw [zM]; exact info_cr) ?_))
            refine (HCy.out _).mono ?_
            rintro e w5 ⟨rfl, hb⟩
            have H5 := Lib.hid (H4.out.next hb)
            clear hb H4 HCy
            --#2a
            go_upto_region 14 with (refine wpList_store_row rfl _ _ _ rfl w.heap.size YR rfl rfl _ _ H5.out.b0 (by rw [zY]; exact info_cr) (by rw [zM, zY]) oY ?_)
            refine world_gen (fun V => Bs w [(w.heap.size + 1, 33, coC .i64 z'), (w.heap.size, 33, coC .i64 y)] V) (by rw [← hXX'.out, ← hYR.out]; exact (H5.out.row YR).sw1) ?_
            clear H5 zM
            intro w6 H6
            replace H6 := Lib.hid H6
            have c13 : w6.cell? ⟨w.heap.size, 13, none⟩ = some (.int .i64 y.f.pt) := Blk.cell H6.out.b1 13
            have c14 : w6.cell? ⟨w.heap.size, 14, none⟩ = some (.int .i64 y.f.pl) := Blk.cell H6.out.b1 14
            have c15 : w6.cell? ⟨w.heap.size, 15, none⟩ = some (.int .i64 y.f.pb) := Blk.cell H6.out.b1 15
            have c16 : w6.cell? ⟨w.heap.size, 16, none⟩ = some (.int .i64 y.f.pr) := Blk.cell H6.out.b1 16
            have c28 : w6.cell? ⟨w.heap.size, 28, none⟩ = some (.int .i64 y.ps) := Blk.cell H6.out.b1 28
            have d13 : w6.cell? ⟨(w.heap.size + 1), 13, none⟩ = some (.int .i64 z'.f.pt) := Blk.cell H6.out.b0 13
            have d14 : w6.cell? ⟨(w.heap.size + 1), 14, none⟩ = some (.int .i64 z'.f.pl) := Blk.cell H6.out.b0 14
            have d15 : w6.cell? ⟨(w.heap.size + 1), 15, none⟩ = some (.int .i64 z'.f.pb) := Blk.cell H6.out.b0 15
            have d16 : w6.cell? ⟨(w.heap.size + 1), 16, none⟩ = some (.int .i64 z'.f.pr) := Blk.cell H6.out.b0 16
            have d28 : w6.cell? ⟨(w.heap.size + 1), 28, none⟩ = some (.int .i64 z'.ps) := Blk.cell H6.out.b0 28
            have f13 : w6.frozen? ⟨(w.heap.size + 1), 13, none⟩ = false := Blk.frozen H6.out.b0 13
            have f14 : w6.frozen? ⟨(w.heap.size + 1), 14, none⟩ = false := Blk.frozen H6.out.b0 14
            have f15 : w6.frozen? ⟨(w.heap.size + 1), 15, none⟩ = false := Blk.frozen H6.out.b0 15
            have f16 : w6.frozen? ⟨(w.heap.size + 1), 16, none⟩ = false := Blk.frozen H6.out.b0 16
            have f28 : w6.frozen? ⟨(w.heap.size + 1), 28, none⟩ = false := Blk.frozen H6.out.b0 28
            --#2b
            have HQ : Hid (Bs w [(w.heap.size + 1, 33, coC .i64 (coP z' y)), (w.heap.size, 33, coC .i64 y)] (((((w6.setCell ⟨w.heap.size + 1, 13, none⟩ (.int .i64 y.f.pt)).setCell ⟨w.heap.size + 1, 14, none⟩ (.int .i64 y.f.pl)).setCell ⟨w.heap.size + 1, 15, none⟩ (.int .i64 y.f.pb)).setCell ⟨w.heap.size + 1, 16, none⟩ (.int .i64 y.f.pr)).setCell ⟨w.heap.size + 1, 28, none⟩ (.int .i64 y.ps))) := Lib.hid (by have HH := (((((H6.out.s0 13 (.int .i64 y.f.pt)).s0 14 (.int .i64 y.f.pl)).s0 15 (.int .i64 y.f.pb)).s0 16 (.int .i64 y.f.pr)).s0 28 (.int .i64 y.ps)); unfold coC at HH; simp only [List.setIfInBounds_toArray, List.set_cons_zero, List.set_cons_succ] at HH; exact HH)
            try simp only [Act.put]
            go_cut [3] (fun sl wx => sl = .pointer (some ⟨w.heap.size + 1, 0, none⟩) ∧ Bs w [(w.heap.size + 1, 33, coC .i64 (coP z' y)), (w.heap.size, 33, coC .i64 y)] wx)
            case first =>
              go_region
              all_goals
                go_wp2_with fail
                go_meet
                exact ⟨rfl, HQ.out.drewB⟩
            case rest =>
              obtain ⟨rfl, H7⟩ := hcut
              rename World => w7
              replace H7 : Bs w [(w.heap.size + 1, 33, PR), (w.heap.size, 33, YR)] w7 := by rw [hPR.out, hYR.out]; exact H7
              replace H7 := Lib.hid H7
              clear HQ H6 c13 c14 c15 c16 c28 d13 d14 d15 d16 d28 f13 f14 f15 f16 f28
              --#2c
              go_wp2_with (first | (refine wpList_load_row rfl _ _ rfl (w.heap.size + 1) rfl _ PR (0, 0) _ H7.out.b0 under_cr rfl (by rw [zP]; exact info_cr) ?_))
              refine (HCo.out _).mono ?_
              rintro e w8 ⟨rfl, hb⟩
              have H8 := Lib.hid (H7.out.next hb)
              clear hb H7 HCo
              --#2d
              go_upto_region 16 with (refine wpList_store_row rfl _ _ _ rfl (w.heap.size + 1) OR rfl rfl _ _ H8.out.b0 (by rw [zO']; exact info_cr) (by rw [zP, zO']) oO ?_)
              refine world_gen (fun V => Bs w [(w.heap.size + 1, 33, OR), (w.heap.size, 33, YR)] V) (H8.out.row OR) ?_
              clear H8 zP
              intro w9 H9
              replace H9 := Lib.hid H9
              have HXo := Lib.hid (fun w' (h : Only [] w9 w') => h.blk H9.out.b0 (by simp)); have HXy := Lib.hid (fun w' (h : Only [] w9 w') => h.blk H9.out.b1 (by simp))
              have HTt := Lib.hid (fun w' (h : Only [] w9 w') => (H9.out.only h).bel)
              --#2e
              refine wp_region_mix_lit (by kernel_rfl) [(1, .call (.agg OU)), (3, .call (.agg YU)), (4, .call (.string jc)), (5, .call (.tuple #[.agg WU, .int .i64 0])), (9, .alloc 10 45 (zO .u32) (fun _ => WU)), (10, .init 9)] (by kernel_rfl) (by kernel_rfl) (by kernel_rfl) (by rfl) (by simp [apartK] <;> omega) (by simp [startK]) (by simp [stabK]) (⟨fun i => .pointer (some ⟨w9.heap.size, 0, none⟩), by simp only [List.forall_mem_cons]; exact ⟨trivial, trivial, trivial, trivial, ⟨_, rfl, Nat.le_refl _⟩, trivial, by simp⟩⟩) (fun β hβ => ?_)
              refine lex_val (v := .agg OR) rfl rfl (fun w' hf => exec_load_row _ (.tmp 3) rfl rfl (HXo.out w' hf.only) under_cr rfl (by rw [zO']; exact info_cr)) ?_
              try simp only [Act.put, List.setIfInBounds_toArray, List.set_cons_zero, List.set_cons_succ]
              refine lex_call (f := 8) (args := ?_) rfl rfl (fun w' hf => ?_) (fun w' hf => ?_) ?_
              rotate_left
              · go_simp
                try rfl
              · exact HOo.out w'
              try simp only [Act.put, List.setIfInBounds_toArray, List.set_cons_zero, List.set_cons_succ]
              refine lex_val (v := .agg YR) rfl rfl (fun w' hf => exec_load_row _ (.tmp 2) rfl rfl (HXy.out w' hf.only) under_cr rfl (by rw [zY]; exact info_cr)) ?_
              try simp only [Act.put, List.setIfInBounds_toArray, List.set_cons_zero, List.set_cons_succ]
              refine lex_call (f := 8) (args := ?_) rfl rfl (fun w' hf => ?_) (fun w' hf => ?_) ?_
              rotate_left
              · go_simp
                try rfl
              · exact HOy.out w'
              try simp only [Act.put, List.setIfInBounds_toArray, List.set_cons_zero, List.set_cons_succ]
              --#2e1
              refine lex_call (f := 9) (args := ?_) rfl rfl (fun w' hf => ?_) (fun w' hf => ?_) ?_
              rotate_left
              · go_simp
                try rfl
              · exact HCu.out w' (hT.out.next (HTt.out w' hf.only)) (hF.out.next (HTt.out w' hf.only)) (hN.out.next (HTt.out w' hf.only))
              try simp only [Act.put, List.setIfInBounds_toArray, List.set_cons_zero, List.set_cons_succ]
              refine lex_call (f := 11) (args := ?_) rfl rfl (fun w' hf => ?_) (fun w' hf => ?_) ?_
              rotate_left
              · go_simp
                try rfl
              · exact HSc.out w' (hT.out.next (HTt.out w' hf.only)) (hF.out.next (HTt.out w' hf.only)) (hBl.out.next (HTt.out w' hf.only))
              try simp only [Act.put, List.setIfInBounds_toArray, List.set_cons_zero, List.set_cons_succ]
              --#2e2
              iterate 3 (
                refine lex_val (v := ?_) rfl rfl (fun w' hf => ?_) ?_
                rotate_left
                · skip; go_simp
                  try rfl
                try simp only [Act.put, List.setIfInBounds_toArray, List.set_cons_zero, List.set_cons_succ])
              refine lex_alloc rfl rfl (fun w' => ?_) ?_
              · unfold zO
                go_simp
                try rfl
              try simp only [Act.put, List.setIfInBounds_toArray, List.set_cons_zero, List.set_cons_succ]
              refine lex_init rfl rfl rfl (fun bl w' hb hf hB => ⟨_, exec_store_row 45 (.tmp 7) (.tmp 77) rfl hb rfl hB (by rw [zV]; exact info_co) (by rw [zV]; rfl) oV, row_repl hB _⟩) ?_
              try simp only [Act.put]
              repeat (
                refine lex_val (v := ?_) rfl rfl (fun w' hf => ?_) ?_
                rotate_left
                · go_simp
                  try rfl
                try simp only [Act.put, List.setIfInBounds_toArray, List.set_cons_zero, List.set_cons_succ])
              refine lex_nil fun w10 he => ?_
              obtain ⟨b7, hb7, hge, hB7⟩ := he.facts 9
              have H10 := Lib.hid (Bs.made H9.out he.only hge hB7)
              rw [hb7]
              clear hb7 he hβ HXo HXy HTt hge hB7 H9 HSc HCu
              --#2f
              go_upto_region 18 with (first | (refine wpList_load_row rfl _ _ rfl (w.heap.size + 1) rfl _ OR (0, 0) _ H10.out.b1 under_cr rfl (by rw [zO']; exact info_cr) ?_) | (refine wpList_store_row rfl _ _ _ rfl w10.heap.size OR rfl rfl _ _ (Blk.new w10 _ _) (by rw [zO']; exact info_cr) (by rw [zO']; rfl) oO ?_))
              have H11 := Lib.hid (H10.out.alloc 33 OR)
              refine world_gen (fun V => Bs w [(w10.heap.size, 33, coC .i64 o), (b7, 45, WU), (w.heap.size + 1, 33, OR), (w.heap.size, 33, coC .i64 y)] V) (by rw [World.setRow_alloc_new, ← hOR.out, ← hYR.out]; exact H11.out) ?_
              clear H10 H11
              intro w11 H11
              generalize w10.heap.size = b9 at *
              replace H11 := Lib.hid H11
              have hne1 : (b9 = w.heap.size) = False := eq_false (fun e => by have := H11.out.2.1; simp [List.pairwise_cons] at this; exact this.1.2.2 e)
              have hne2 : (w.heap.size = b9) = False := eq_false (fun e => by rw [← hne1]; exact e.symm)
              have c0 : w11.cell? ⟨w.heap.size, 0, none⟩ = some (.int .i64 y.r) := Blk.cell H11.out.b3 0
              have c1 : w11.cell? ⟨w.heap.size, 1, none⟩ = some (.int .i64 y.c) := Blk.cell H11.out.b3 1
              have c2 : w11.cell? ⟨w.heap.size, 2, none⟩ = some (.int .u8 y.K.rd) := Blk.cell H11.out.b3 2
              have c3 : w11.cell? ⟨w.heap.size, 3, none⟩ = some (.bool y.K.kp) := Blk.cell H11.out.b3 3
              have c4 : w11.cell? ⟨w.heap.size, 4, none⟩ = some (.bool y.wp) := Blk.cell H11.out.b3 4
              have c5 : w11.cell? ⟨w.heap.size, 5, none⟩ = some (.bool y.K.og) := Blk.cell H11.out.b3 5
              have c6 : w11.cell? ⟨w.heap.size, 6, none⟩ = some (.int .i64 y.K.a) := Blk.cell H11.out.b3 6
              have c7 : w11.cell? ⟨w.heap.size, 7, none⟩ = some (.int .i64 y.K.b) := Blk.cell H11.out.b3 7
              have c8 : w11.cell? ⟨w.heap.size, 8, none⟩ = some (.int .i64 y.K.c) := Blk.cell H11.out.b3 8
              have c9 : w11.cell? ⟨w.heap.size, 9, none⟩ = some (.int .i64 y.K.d) := Blk.cell H11.out.b3 9
              have c10 : w11.cell? ⟨w.heap.size, 10, none⟩ = some (.int .i64 y.K.l) := Blk.cell H11.out.b3 10
              have c11 : w11.cell? ⟨w.heap.size, 11, none⟩ = some (.int .i64 y.K.r) := Blk.cell H11.out.b3 11
              have c12 : w11.cell? ⟨w.heap.size, 12, none⟩ = some (.int .i64 y.K.s) := Blk.cell H11.out.b3 12
              have c27 : w11.cell? ⟨w.heap.size, 27, none⟩ = some (.int .i64 y.pg) := Blk.cell H11.out.b3 27
              have d0 : w11.cell? ⟨b9, 0, none⟩ = some (.int .i64 o.r) := Blk.cell H11.out.b0 0
              have d1 : w11.cell? ⟨b9, 1, none⟩ = some (.int .i64 o.c) := Blk.cell H11.out.b0 1
              have d2 : w11.cell? ⟨b9, 2, none⟩ = some (.int .u8 o.K.rd) := Blk.cell H11.out.b0 2
              have d3 : w11.cell? ⟨b9, 3, none⟩ = some (.bool o.K.kp) := Blk.cell H11.out.b0 3
              have d4 : w11.cell? ⟨b9, 4, none⟩ = some (.bool o.wp) := Blk.cell H11.out.b0 4
              have d5 : w11.cell? ⟨b9, 5, none⟩ = some (.bool o.K.og) := Blk.cell H11.out.b0 5
              have d6 : w11.cell? ⟨b9, 6, none⟩ = some (.int .i64 o.K.a) := Blk.cell H11.out.b0 6
              have d7 : w11.cell? ⟨b9, 7, none⟩ = some (.int .i64 o.K.b) := Blk.cell H11.out.b0 7
              have d8 : w11.cell? ⟨b9, 8, none⟩ = some (.int .i64 o.K.c) := Blk.cell H11.out.b0 8
              have d9 : w11.cell? ⟨b9, 9, none⟩ = some (.int .i64 o.K.d) := Blk.cell H11.out.b0 9
              have d10 : w11.cell? ⟨b9, 10, none⟩ = some (.int .i64 o.K.l) := Blk.cell H11.out.b0 10
              have d11 : w11.cell? ⟨b9, 11, none⟩ = some (.int .i64 o.K.r) := Blk.cell H11.out.b0 11
              have d12 : w11.cell? ⟨b9, 12, none⟩ = some (.int .i64 o.K.s) := Blk.cell H11.out.b0 12
              have d27 : w11.cell? ⟨b9, 27, none⟩ = some (.int .i64 o.pg) := Blk.cell H11.out.b0 27
              have f0 : w11.frozen? ⟨b9, 0, none⟩ = false := Blk.frozen H11.out.b0 0
              have f1 : w11.frozen? ⟨b9, 1, none⟩ = false := Blk.frozen H11.out.b0 1
              have f2 : w11.frozen? ⟨b9, 2, none⟩ = false := Blk.frozen H11.out.b0 2
              have f3 : w11.frozen? ⟨b9, 3, none⟩ = false := Blk.frozen H11.out.b0 3
              have f4 : w11.frozen? ⟨b9, 4, none⟩ = false := Blk.frozen H11.out.b0 4
              have f5 : w11.frozen? ⟨b9, 5, none⟩ = false := Blk.frozen H11.out.b0 5
              have f6 : w11.frozen? ⟨b9, 6, none⟩ = false := Blk.frozen H11.out.b0 6
              have f7 : w11.frozen? ⟨b9, 7, none⟩ = false := Blk.frozen H11.out.b0 7
              have f8 : w11.frozen? ⟨b9, 8, none⟩ = false := Blk.frozen H11.out.b0 8
              have f9 : w11.frozen? ⟨b9, 9, none⟩ = false := Blk.frozen H11.out.b0 9
              have f10 : w11.frozen? ⟨b9, 10, none⟩ = false := Blk.frozen H11.out.b0 10
              have f11 : w11.frozen? ⟨b9, 11, none⟩ = false := Blk.frozen H11.out.b0 11
              have f12 : w11.frozen? ⟨b9, 12, none⟩ = false := Blk.frozen H11.out.b0 12
              have f27 : w11.frozen? ⟨b9, 27, none⟩ = false := Blk.frozen H11.out.b0 27
              --#2g
              have HQ : Hid (Bs w [(b9, 33, coC .i64 (coW o y)), (b7, 45, WU), (w.heap.size + 1, 33, OR), (w.heap.size, 33, coC .i64 y)] ((((((((((((((w11.setCell ⟨b9, 0, none⟩ (.int .i64 y.r)).setCell ⟨b9, 1, none⟩ (.int .i64 y.c)).setCell ⟨b9, 2, none⟩ (.int .u8 y.K.rd)).setCell ⟨b9, 3, none⟩ (.bool y.K.kp)).setCell ⟨b9, 4, none⟩ (.bool y.wp)).setCell ⟨b9, 5, none⟩ (.bool y.K.og)).setCell ⟨b9, 6, none⟩ (.int .i64 y.K.a)).setCell ⟨b9, 7, none⟩ (.int .i64 y.K.b)).setCell ⟨b9, 8, none⟩ (.int .i64 y.K.c)).setCell ⟨b9, 9, none⟩ (.int .i64 y.K.d)).setCell ⟨b9, 10, none⟩ (.int .i64 y.K.l)).setCell ⟨b9, 11, none⟩ (.int .i64 y.K.r)).setCell ⟨b9, 12, none⟩ (.int .i64 y.K.s)).setCell ⟨b9, 27, none⟩ (.int .i64 y.pg))) := Lib.hid (by have HH := ((((((((((((((H11.out.s0 0 (.int .i64 y.r)).s0 1 (.int .i64 y.c)).s0 2 (.int .u8 y.K.rd)).s0 3 (.bool y.K.kp)).s0 4 (.bool y.wp)).s0 5 (.bool y.K.og)).s0 6 (.int .i64 y.K.a)).s0 7 (.int .i64 y.K.b)).s0 8 (.int .i64 y.K.c)).s0 9 (.int .i64 y.K.d)).s0 10 (.int .i64 y.K.l)).s0 11 (.int .i64 y.K.r)).s0 12 (.int .i64 y.K.s)).s0 27 (.int .i64 y.pg)); unfold coC at HH; simp only [List.setIfInBounds_toArray, List.set_cons_zero, List.set_cons_succ] at HH; exact HH)
              try simp only [Act.put]
              go_cut [9] (fun sl wx => sl = .pointer (some ⟨b9, 0, none⟩) ∧ Bs w [(b9, 33, coC .i64 (coW o y)), (b7, 45, WU), (w.heap.size + 1, 33, OR), (w.heap.size, 33, coC .i64 y)] wx)
              case first =>
                --#2g1
                go_region
                all_goals
                  go_wp2_with fail
                  go_meet
                  exact ⟨rfl, HQ.out.drewB⟩
              case rest =>
                obtain ⟨rfl, H12⟩ := hcut
                rename World => w12
                replace H12 : Bs w [(b9, 33, WR), (b7, 45, WU), (w.heap.size + 1, 33, OR), (w.heap.size, 33, YR)] w12 := by rw [hWR.out, hYR.out]; exact H12
                replace H12 := Lib.hid H12
                clear HQ H11 hne1 hne2 c0 c1 c2 c3 c4 c5 c6 c7 c8 c9 c10 c11 c12 c27 d0 d1 d2 d3 d4 d5 d6 d7 d8 d9 d10 d11 d12 d27 f0 f1 f2 f3 f4 f5 f6 f7 f8 f9 f10 f11 f12 f27
                have HXb := Lib.hid (fun w' (h : Only [] w12 w') => h.blk H12.out.b1 (by simp)); have HXw := Lib.hid (fun w' (h : Only [] w12 w') => h.blk H12.out.b0 (by simp))
                --#2h
                go_upto_region 19 with fail
                refine wp_region_mix_lit (by kernel_rfl) [(4, .call (.agg WR))] (by kernel_rfl) (by kernel_rfl) (by kernel_rfl) (by rfl) (by simp [apartK] <;> omega) (by simp [startK]) (by simp [stabK]) (⟨fun _ => undef, by simp [okK]⟩) (fun β hβ => ?_)
                iterate 3 (
                  refine lex_val (v := ?_) rfl rfl (fun w' hf => ?_) ?_
                  rotate_left
                  · skip; go_simp
                    try rfl
                  try simp only [Act.put, List.setIfInBounds_toArray, List.set_cons_zero, List.set_cons_succ])
                refine lex_val (v := .agg WU) rfl rfl (fun w' hf => exec_load_row _ (.tmp 7) rfl rfl (HXb.out w' hf.only) under_co rfl (by rw [zV]; exact info_co)) ?_
                try simp only [Act.put, List.setIfInBounds_toArray, List.set_cons_zero, List.set_cons_succ]
                refine lex_call (f := 13) (args := ?_) rfl rfl (fun w' hf => ?_) (fun w' hf => ?_) ?_
                rotate_left
                · go_simp
                  try rfl
                · exact HTw.out w'
                try simp only [Act.put, List.setIfInBounds_toArray, List.set_cons_zero, List.set_cons_succ]
                refine lex_val (v := .agg WR) rfl rfl (fun w' hf => exec_load_row _ (.tmp 9) rfl rfl (HXw.out w' hf.only) under_cr rfl (by rw [zW]; exact info_cr)) ?_
                try simp only [Act.put, List.setIfInBounds_toArray, List.set_cons_zero, List.set_cons_succ]
                refine lex_val (v := .bool false) rfl rfl (fun w' hf => exec_eqA .neq _ (.tmp 90) (.tmp 91) _ rfl rfl rfl (G1.out w' _ _ _) (E1.out w')) ?_
                try simp only [Act.put, List.setIfInBounds_toArray, List.set_cons_zero, List.set_cons_succ]
                repeat (
                  refine lex_val (v := ?_) rfl rfl (fun w' hf => ?_) ?_
                  rotate_left
                  · go_simp
                    try rfl
                  try simp only [Act.put, List.setIfInBounds_toArray, List.set_cons_zero, List.set_cons_succ])
                refine lex_nil fun w13 he => ?_
                have H13 := Lib.hid ((H12.out.only he.only).tl.tl)
                clear he hβ HXb HXw H12 E1 G1 HTw
                --#2i
                go_upto_region 21 with fail
                have HXo := Lib.hid (fun w' (h : Only [] w13 w') => h.blk H13.out.b0 (by simp)); have HXy := Lib.hid (fun w' (h : Only [] w13 w') => h.blk H13.out.b1 (by simp))
                have HTt := Lib.hid (fun w' (h : Only [] w13 w') => (H13.out.only h).bel)
                --#2j
                refine wp_region_mix_lit (by kernel_rfl) [(1, .call (.agg OU)), (3, .call (.agg YU)), (4, .call (.string jr)), (5, .call (.tuple #[.agg AU, .int .i64 0])), (9, .alloc 10 45 (zO .u32) (fun _ => AU)), (10, .init 9)] (by kernel_rfl) (by kernel_rfl) (by kernel_rfl) (by rfl) (by simp [apartK] <;> omega) (by simp [startK]) (by simp [stabK]) (⟨fun i => .pointer (some ⟨w13.heap.size, 0, none⟩), by simp only [List.forall_mem_cons]; exact ⟨trivial, trivial, trivial, trivial, ⟨_, rfl, Nat.le_refl _⟩, trivial, by simp⟩⟩) (fun β hβ => ?_)
                refine lex_val (v := .agg OR) rfl rfl (fun w' hf => exec_load_row _ (.tmp 3) rfl rfl (HXo.out w' hf.only) under_cr rfl (by rw [zO']; exact info_cr)) ?_
                try simp only [Act.put, List.setIfInBounds_toArray, List.set_cons_zero, List.set_cons_succ]
                refine lex_call (f := 8) (args := ?_) rfl rfl (fun w' hf => ?_) (fun w' hf => ?_) ?_
                rotate_left
                · go_simp
                  try rfl
                · exact HOo.out w'
                try simp only [Act.put, List.setIfInBounds_toArray, List.set_cons_zero, List.set_cons_succ]
                refine lex_val (v := .agg YR) rfl rfl (fun w' hf => exec_load_row _ (.tmp 2) rfl rfl (HXy.out w' hf.only) under_cr rfl (by rw [zY]; exact info_cr)) ?_
                try simp only [Act.put, List.setIfInBounds_toArray, List.set_cons_zero, List.set_cons_succ]
                refine lex_call (f := 8) (args := ?_) rfl rfl (fun w' hf => ?_) (fun w' hf => ?_) ?_
                rotate_left
                · go_simp
                  try rfl
                · exact HOy.out w'
                try simp only [Act.put, List.setIfInBounds_toArray, List.set_cons_zero, List.set_cons_succ]
                --#2j1
                refine lex_call (f := 16) (args := ?_) rfl rfl (fun w' hf => ?_) (fun w' hf => ?_) ?_
                rotate_left
                · go_simp
                  try rfl
                · exact HRp.out w' (hT.out.next (HTt.out w' hf.only)) (hF.out.next (HTt.out w' hf.only)) (hN.out.next (HTt.out w' hf.only))
                try simp only [Act.put, List.setIfInBounds_toArray, List.set_cons_zero, List.set_cons_succ]
                refine lex_call (f := 15) (args := ?_) rfl rfl (fun w' hf => ?_) (fun w' hf => ?_) ?_
                rotate_left
                · go_simp
                  try rfl
                · exact HRs.out w' (hT.out.next (HTt.out w' hf.only)) (hF.out.next (HTt.out w' hf.only))
                try simp only [Act.put, List.setIfInBounds_toArray, List.set_cons_zero, List.set_cons_succ]
                --#2j2
                iterate 3 (
                  refine lex_val (v := ?_) rfl rfl (fun w' hf => ?_) ?_
                  rotate_left
                  · skip; go_simp
                    try rfl
                  try simp only [Act.put, List.setIfInBounds_toArray, List.set_cons_zero, List.set_cons_succ])
                refine lex_alloc rfl rfl (fun w' => ?_) ?_
                · unfold zO
                  go_simp
                  try rfl
                try simp only [Act.put, List.setIfInBounds_toArray, List.set_cons_zero, List.set_cons_succ]
                refine lex_init rfl rfl rfl (fun bl w' hb hf hB => ⟨_, exec_store_row 45 (.tmp 10) (.tmp 101) rfl hb rfl hB (by rw [zB]; exact info_co) (by rw [zB]; rfl) oB, row_repl hB _⟩) ?_
                try simp only [Act.put]
                repeat (
                  refine lex_val (v := ?_) rfl rfl (fun w' hf => ?_) ?_
                  rotate_left
                  · go_simp
                    try rfl
                  try simp only [Act.put, List.setIfInBounds_toArray, List.set_cons_zero, List.set_cons_succ])
                refine lex_nil fun w14 he => ?_
                obtain ⟨b8, hb8, hge, hB8⟩ := he.facts 9
                have H14 := Lib.hid (Bs.made H13.out he.only hge hB8)
                rw [hb8]
                clear hb8 he hβ HXo HXy HTt hge hB8 H13 HRs HRp
                --#2k
                go_upto_region 23 with (first | (refine wpList_load_row rfl _ _ rfl w.heap.size rfl _ YR (0, 0) _ H14.out.b2 under_cr rfl (by rw [zY]; exact info_cr) ?_) | (refine wpList_store_row rfl _ _ _ rfl w14.heap.size YR rfl rfl _ _ (Blk.new w14 _ _) (by rw [zY]; exact info_cr) (by rw [zY]; rfl) oY ?_))
                have H15 := Lib.hid (H14.out.alloc 33 YR)
                refine world_gen (fun V => Bs w [(w14.heap.size, 33, coC .i64 y), (b8, 45, AU), (w.heap.size + 1, 33, coC .i64 o), (w.heap.size, 33, coC .i64 y)] V) (by rw [World.setRow_alloc_new, ← hOR.out, ← hYR.out]; exact H15.out) ?_
                clear H14 H15
                intro w15 H15
                generalize w14.heap.size = b6 at *
                replace H15 := Lib.hid H15
                have hne1 : (b6 = w.heap.size + 1) = False := eq_false (fun e => by have := H15.out.2.1; simp [List.pairwise_cons] at this; exact this.1.2.1 e)
                have hne2 : (w.heap.size + 1 = b6) = False := eq_false (fun e => by rw [← hne1]; exact e.symm)
                have hne3 : (b6 = w.heap.size) = False := eq_false (fun e => by have := H15.out.2.1; simp [List.pairwise_cons] at this; exact this.1.2.2 e)
                have hne4 : (w.heap.size = b6) = False := eq_false (fun e => by rw [← hne3]; exact e.symm)
                have c0 : w15.cell? ⟨(w.heap.size + 1), 0, none⟩ = some (.int .i64 o.r) := Blk.cell H15.out.b2 0
                have c1 : w15.cell? ⟨(w.heap.size + 1), 1, none⟩ = some (.int .i64 o.c) := Blk.cell H15.out.b2 1
                have c2 : w15.cell? ⟨(w.heap.size + 1), 2, none⟩ = some (.int .u8 o.K.rd) := Blk.cell H15.out.b2 2
                have c3 : w15.cell? ⟨(w.heap.size + 1), 3, none⟩ = some (.bool o.K.kp) := Blk.cell H15.out.b2 3
                have c4 : w15.cell? ⟨(w.heap.size + 1), 4, none⟩ = some (.bool o.wp) := Blk.cell H15.out.b2 4
                have c5 : w15.cell? ⟨(w.heap.size + 1), 5, none⟩ = some (.bool o.K.og) := Blk.cell H15.out.b2 5
                have c6 : w15.cell? ⟨(w.heap.size + 1), 6, none⟩ = some (.int .i64 o.K.a) := Blk.cell H15.out.b2 6
                have c7 : w15.cell? ⟨(w.heap.size + 1), 7, none⟩ = some (.int .i64 o.K.b) := Blk.cell H15.out.b2 7
                have c8 : w15.cell? ⟨(w.heap.size + 1), 8, none⟩ = some (.int .i64 o.K.c) := Blk.cell H15.out.b2 8
                have c9 : w15.cell? ⟨(w.heap.size + 1), 9, none⟩ = some (.int .i64 o.K.d) := Blk.cell H15.out.b2 9
                have c10 : w15.cell? ⟨(w.heap.size + 1), 10, none⟩ = some (.int .i64 o.K.l) := Blk.cell H15.out.b2 10
                have c11 : w15.cell? ⟨(w.heap.size + 1), 11, none⟩ = some (.int .i64 o.K.r) := Blk.cell H15.out.b2 11
                have c12 : w15.cell? ⟨(w.heap.size + 1), 12, none⟩ = some (.int .i64 o.K.s) := Blk.cell H15.out.b2 12
                have c27 : w15.cell? ⟨(w.heap.size + 1), 27, none⟩ = some (.int .i64 o.pg) := Blk.cell H15.out.b2 27
                have d0 : w15.cell? ⟨b6, 0, none⟩ = some (.int .i64 y.r) := Blk.cell H15.out.b0 0
                have d1 : w15.cell? ⟨b6, 1, none⟩ = some (.int .i64 y.c) := Blk.cell H15.out.b0 1
                have d2 : w15.cell? ⟨b6, 2, none⟩ = some (.int .u8 y.K.rd) := Blk.cell H15.out.b0 2
                have d3 : w15.cell? ⟨b6, 3, none⟩ = some (.bool y.K.kp) := Blk.cell H15.out.b0 3
                have d4 : w15.cell? ⟨b6, 4, none⟩ = some (.bool y.wp) := Blk.cell H15.out.b0 4
                have d5 : w15.cell? ⟨b6, 5, none⟩ = some (.bool y.K.og) := Blk.cell H15.out.b0 5
                have d6 : w15.cell? ⟨b6, 6, none⟩ = some (.int .i64 y.K.a) := Blk.cell H15.out.b0 6
                have d7 : w15.cell? ⟨b6, 7, none⟩ = some (.int .i64 y.K.b) := Blk.cell H15.out.b0 7
                have d8 : w15.cell? ⟨b6, 8, none⟩ = some (.int .i64 y.K.c) := Blk.cell H15.out.b0 8
                have d9 : w15.cell? ⟨b6, 9, none⟩ = some (.int .i64 y.K.d) := Blk.cell H15.out.b0 9
                have d10 : w15.cell? ⟨b6, 10, none⟩ = some (.int .i64 y.K.l) := Blk.cell H15.out.b0 10
                have d11 : w15.cell? ⟨b6, 11, none⟩ = some (.int .i64 y.K.r) := Blk.cell H15.out.b0 11
                have d12 : w15.cell? ⟨b6, 12, none⟩ = some (.int .i64 y.K.s) := Blk.cell H15.out.b0 12
                have d27 : w15.cell? ⟨b6, 27, none⟩ = some (.int .i64 y.pg) := Blk.cell H15.out.b0 27
                have f0 : w15.frozen? ⟨b6, 0, none⟩ = false := Blk.frozen H15.out.b0 0
                have f1 : w15.frozen? ⟨b6, 1, none⟩ = false := Blk.frozen H15.out.b0 1
                have f2 : w15.frozen? ⟨b6, 2, none⟩ = false := Blk.frozen H15.out.b0 2
                have f3 : w15.frozen? ⟨b6, 3, none⟩ = false := Blk.frozen H15.out.b0 3
                have f4 : w15.frozen? ⟨b6, 4, none⟩ = false := Blk.frozen H15.out.b0 4
                have f5 : w15.frozen? ⟨b6, 5, none⟩ = false := Blk.frozen H15.out.b0 5
                have f6 : w15.frozen? ⟨b6, 6, none⟩ = false := Blk.frozen H15.out.b0 6
                have f7 : w15.frozen? ⟨b6, 7, none⟩ = false := Blk.frozen H15.out.b0 7
                have f8 : w15.frozen? ⟨b6, 8, none⟩ = false := Blk.frozen H15.out.b0 8
                have f9 : w15.frozen? ⟨b6, 9, none⟩ = false := Blk.frozen H15.out.b0 9
                have f10 : w15.frozen? ⟨b6, 10, none⟩ = false := Blk.frozen H15.out.b0 10
                have f11 : w15.frozen? ⟨b6, 11, none⟩ = false := Blk.frozen H15.out.b0 11
                have f12 : w15.frozen? ⟨b6, 12, none⟩ = false := Blk.frozen H15.out.b0 12
                have f27 : w15.frozen? ⟨b6, 27, none⟩ = false := Blk.frozen H15.out.b0 27
                --#2l
                have HQ : Hid (Bs w [(b6, 33, coC .i64 (coW y o)), (b8, 45, AU), (w.heap.size + 1, 33, coC .i64 o), (w.heap.size, 33, coC .i64 y)] ((((((((((((((w15.setCell ⟨b6, 0, none⟩ (.int .i64 o.r)).setCell ⟨b6, 1, none⟩ (.int .i64 o.c)).setCell ⟨b6, 2, none⟩ (.int .u8 o.K.rd)).setCell ⟨b6, 3, none⟩ (.bool o.K.kp)).setCell ⟨b6, 4, none⟩ (.bool o.wp)).setCell ⟨b6, 5, none⟩ (.bool o.K.og)).setCell ⟨b6, 6, none⟩ (.int .i64 o.K.a)).setCell ⟨b6, 7, none⟩ (.int .i64 o.K.b)).setCell ⟨b6, 8, none⟩ (.int .i64 o.K.c)).setCell ⟨b6, 9, none⟩ (.int .i64 o.K.d)).setCell ⟨b6, 10, none⟩ (.int .i64 o.K.l)).setCell ⟨b6, 11, none⟩ (.int .i64 o.K.r)).setCell ⟨b6, 12, none⟩ (.int .i64 o.K.s)).setCell ⟨b6, 27, none⟩ (.int .i64 o.pg))) := Lib.hid (by have HH := ((((((((((((((H15.out.s0 0 (.int .i64 o.r)).s0 1 (.int .i64 o.c)).s0 2 (.int .u8 o.K.rd)).s0 3 (.bool o.K.kp)).s0 4 (.bool o.wp)).s0 5 (.bool o.K.og)).s0 6 (.int .i64 o.K.a)).s0 7 (.int .i64 o.K.b)).s0 8 (.int .i64 o.K.c)).s0 9 (.int .i64 o.K.d)).s0 10 (.int .i64 o.K.l)).s0 11 (.int .i64 o.K.r)).s0 12 (.int .i64 o.K.s)).s0 27 (.int .i64 o.pg)); unfold coC at HH; simp only [List.setIfInBounds_toArray, List.set_cons_zero, List.set_cons_succ] at HH; exact HH)
                try simp only [Act.put]
                go_cut [11] (fun sl wx => sl = .pointer (some ⟨b6, 0, none⟩) ∧ Bs w [(b6, 33, coC .i64 (coW y o)), (b8, 45, AU), (w.heap.size + 1, 33, coC .i64 o), (w.heap.size, 33, coC .i64 y)] wx)
                case first =>
                  --#2l1
                  go_region
                  all_goals
                    go_wp2_with fail
                    go_meet
                    exact ⟨rfl, HQ.out.drewB⟩
                case rest =>
                  obtain ⟨rfl, H16⟩ := hcut
                  rename World => w16
                  replace H16 := Lib.hid H16
                  clear HQ H15 c0 c1 c2 c3 c4 c5 c6 c7 c8 c9 c10 c11 c12 c27 d0 d1 d2 d3 d4 d5 d6 d7 d8 d9 d10 d11 d12 d27 f0 f1 f2 f3 f4 f5 f6 f7 f8 f9 f10 f11 f12 f27
                  have n5 : w16.cell? ⟨b6, 5, none⟩ = some (.bool o.K.og) := Blk.cell H16.out.b0 5
                  have z5 : w16.frozen? ⟨b6, 5, none⟩ = false := H16.out.b0.frozen 5
                  have y5 : w16.cell? ⟨w.heap.size, 5, none⟩ = some (.bool y.K.og) := Blk.cell H16.out.b3 5
                  --#2m
                  go_upto_region 25 with fail
                  refine world_gen (fun V => Bs w [(b6, 33, AR), (b8, 45, AU), (w.heap.size + 1, 33, coC .i64 o), (w.heap.size, 33, coC .i64 y)] V) (by rw [hAR.out]; have HH := H16.out.s0 5 (.bool y.K.og); unfold coC at HH; simp only [List.setIfInBounds_toArray, List.set_cons_zero, List.set_cons_succ] at HH; exact HH) ?_
                  clear H16 n5 z5 y5 hne1 hne2 hne3 hne4
                  intro w17 H17
                  replace H17 := Lib.hid H17
                  have HXb := Lib.hid (fun w' (h : Only [] w17 w') => h.blk H17.out.b1 (by simp)); have HXw := Lib.hid (fun w' (h : Only [] w17 w') => h.blk H17.out.b0 (by simp))
                  --#2n
                  refine wp_region_mix_lit (by kernel_rfl) [(4, .call (.agg AR))] (by kernel_rfl) (by kernel_rfl) (by kernel_rfl) (by rfl) (by simp [apartK] <;> omega) (by simp [startK]) (by simp [stabK]) (⟨fun _ => undef, by simp [okK]⟩) (fun β hβ => ?_)
                  iterate 3 (
                    refine lex_val (v := ?_) rfl rfl (fun w' hf => ?_) ?_
                    rotate_left
                    · skip; go_simp
                      try rfl
                    try simp only [Act.put, List.setIfInBounds_toArray, List.set_cons_zero, List.set_cons_succ])
                  refine lex_val (v := .agg AU) rfl rfl (fun w' hf => exec_load_row _ (.tmp 10) rfl rfl (HXb.out w' hf.only) under_co rfl (by rw [zB]; exact info_co)) ?_
                  try simp only [Act.put, List.setIfInBounds_toArray, List.set_cons_zero, List.set_cons_succ]
                  refine lex_call (f := 13) (args := ?_) rfl rfl (fun w' hf => ?_) (fun w' hf => ?_) ?_
                  rotate_left
                  · go_simp
                    try rfl
                  · exact HTa.out w'
                  try simp only [Act.put, List.setIfInBounds_toArray, List.set_cons_zero, List.set_cons_succ]
                  refine lex_val (v := .agg AR) rfl rfl (fun w' hf => exec_load_row _ (.tmp 11) rfl rfl (HXw.out w' hf.only) under_cr rfl (by rw [zA]; exact info_cr)) ?_
                  try simp only [Act.put, List.setIfInBounds_toArray, List.set_cons_zero, List.set_cons_succ]
                  refine lex_val (v := .bool true) rfl rfl (fun w' hf => exec_eqA .eql _ (.tmp 119) (.tmp 120) _ rfl rfl rfl (G2.out w' _ _ _) (E2.out w')) ?_
                  try simp only [Act.put, List.setIfInBounds_toArray, List.set_cons_zero, List.set_cons_succ]
                  repeat (
                    refine lex_val (v := ?_) rfl rfl (fun w' hf => ?_) ?_
                    rotate_left
                    · go_simp
                      try rfl
                    try simp only [Act.put, List.setIfInBounds_toArray, List.set_cons_zero, List.set_cons_succ])
                  refine lex_nil fun w18 he => ?_
                  have H18 := Lib.hid (H17.out.only he.only).bel
                  clear he hβ HXb HXw H17 E2 G2 HTa
                  --#2o
                  go_wp2_with fail
                  go_ret
                  exact ⟨rfl, H18.out⟩

set_option maxRecDepth 100000 in
/-- What the walk gives, for every argument and every world that holds the table. -/
theorem contract (H : Type) (enc : TypeId × Value → H) (W : World) (base : Nat) (args : Array Value) (ds gs : List (DataW H)) (before : List MemPlace)
    (hval : ∀ (j : Nat) t v, Tryz.f4.params[j]? = some t → args[j]? = some v → Value.okWide Tryz.prog W .any base t v)
    (hW : DataW.Whole enc Tryz.prog Tryz.f4.params.toList Rows.stateBackSpec.vars false W args.toList ds gs before) (hL : laidMetH Tryz.prog Rows.stateBackRow.laid W)
    (hreach : (DataW.weightsEach Tryz.prog (Tryz.f4.params.toList ++ []) (ds ++ gs)).all (· ≤ reachBytes) = true) :
    Calls Tryz.prog 4 args W fun e W' => ∃ v, e = .returned v ∧ Rows.stateBackSpec.post enc Tryz.prog Tryz.f4 false true false false W args v W' := by
  have hW' := hW
  have ht := tabSz hL
  have hs := facesSz hL
  have hn := tenSz hL
  have hm := modsSz hL
  have hb := blanksSz hL
  have hlts : ∀ x ∈ before, x.block < W.heap.size := fun x hx => hW'.lt x hx
  obtain ⟨p, q, hA0, hV, rfl, hfz, hnd⟩ := hW
  have hA : DataW.TrodAll enc Tryz.prog W 0 (fun _ => true) true Tryz.f4.params.toList args.toList ds p := hA0
  rw [Tryz.params4] at hA hval hreach
  obtain ⟨v0, vs0, d0, ds0, pp0, qq0, hargs, rfl, rfl, h0, rr0⟩ := trodAll_cons hA
  obtain ⟨v1, vs1, d1, ds1, pp1, qq1, rfl, rfl, rfl, h1, rr1⟩ := trodAll_cons rr0
  obtain ⟨rfl, rfl, rfl⟩ := trodAll_nil rr1
  obtain rfl : args = #[v0, v1] := by cases args; simp_all
  obtain ⟨rfl, rfl⟩ := trodVars_none hV
  obtain ⟨x0, mz0, rfl, lo0, hi0⟩ := core_in (hval 0 33 v0 rfl rfl) h0
  obtain ⟨x1, mz1, rfl, lo1, hi1⟩ := core_in (hval 1 33 v1 rfl rfl) h1
  clear hA0
  refine (walk x0 mz0 lo0 hi0 x1 mz1 lo1 hi1 W ht hs hn hm hb).mono fun e W' ⟨he, hb⟩ => ?_
  subst he
  exact ⟨_, rfl, post_law laidOut (by kernel_rfl) (by kernel_rfl) rfl hW' rfl hb⟩

set_option maxRecDepth 100000 in
theorem laid_met (os : Os) : laidMet Tryz.prog Rows.stateBackRow.laid ((laidWorldSz os).forCall (fun _ _ => 0) ⟨#[], #[Value.agg #[.int .i64 0, .int .i64 0, .int .u8 0, .bool false, .bool false, .bool false, .int .i64 0, .int .i64 0, .int .i64 0, .int .i64 0, .int .i64 0, .int .i64 0, .int .i64 0, .int .i64 0, .int .i64 0, .int .i64 0, .int .i64 0, .int .i64 0, .int .i64 0, .int .i64 0, .int .i64 0, .int .i64 0, .int .i64 0, .bool false, .bool false, .int .i64 0, .bool false, .int .i64 0, .int .i64 0], Value.agg #[.int .i64 0, .int .i64 0, .int .u8 0, .bool false, .bool false, .bool false, .int .i64 0, .int .i64 0, .int .i64 0, .int .i64 0, .int .i64 0, .int .i64 0, .int .i64 0, .int .i64 0, .int .i64 0, .int .i64 0, .int .i64 0, .int .i64 0, .int .i64 0, .int .i64 0, .int .i64 0, .int .i64 0, .int .i64 0, .bool false, .bool false, .int .i64 0, .bool false, .int .i64 0, .int .i64 0]], []⟩).memory :=
  laid_metSz os _
set_option maxRecDepth 100000 in
theorem reads (os : Os) {H : Type} (enc : TypeId × Value → H) : ∃ places, DataW.whole enc Tryz.prog ((laidWorldSz os).forCall (fun _ _ => 0) ⟨#[], #[Value.agg #[.int .i64 0, .int .i64 0, .int .u8 0, .bool false, .bool false, .bool false, .int .i64 0, .int .i64 0, .int .i64 0, .int .i64 0, .int .i64 0, .int .i64 0, .int .i64 0, .int .i64 0, .int .i64 0, .int .i64 0, .int .i64 0, .int .i64 0, .int .i64 0, .int .i64 0, .int .i64 0, .int .i64 0, .int .i64 0, .bool false, .bool false, .int .i64 0, .bool false, .int .i64 0, .int .i64 0], Value.agg #[.int .i64 0, .int .i64 0, .int .u8 0, .bool false, .bool false, .bool false, .int .i64 0, .int .i64 0, .int .i64 0, .int .i64 0, .int .i64 0, .int .i64 0, .int .i64 0, .int .i64 0, .int .i64 0, .int .i64 0, .int .i64 0, .int .i64 0, .int .i64 0, .int .i64 0, .int .i64 0, .int .i64 0, .int .i64 0, .bool false, .bool false, .int .i64 0, .bool false, .int .i64 0, .int .i64 0]], []⟩).memory Tryz.f4.params.toList Rows.stateBackSpec.vars false (#[Value.agg #[.int .i64 0, .int .i64 0, .int .u8 0, .bool false, .bool false, .bool false, .int .i64 0, .int .i64 0, .int .i64 0, .int .i64 0, .int .i64 0, .int .i64 0, .int .i64 0, .int .i64 0, .int .i64 0, .int .i64 0, .int .i64 0, .int .i64 0, .int .i64 0, .int .i64 0, .int .i64 0, .int .i64 0, .int .i64 0, .bool false, .bool false, .int .i64 0, .bool false, .int .i64 0, .int .i64 0], Value.agg #[.int .i64 0, .int .i64 0, .int .u8 0, .bool false, .bool false, .bool false, .int .i64 0, .int .i64 0, .int .i64 0, .int .i64 0, .int .i64 0, .int .i64 0, .int .i64 0, .int .i64 0, .int .i64 0, .int .i64 0, .int .i64 0, .int .i64 0, .int .i64 0, .int .i64 0, .int .i64 0, .int .i64 0, .int .i64 0, .bool false, .bool false, .int .i64 0, .bool false, .int .i64 0, .int .i64 0]] : Array Value).toList 8 = some ([.agg [.agg [.lit (.int .i64 0), .lit (.int .i64 0), .lit (.int .u8 0), .lit (.bool false), .lit (.bool false), .lit (.bool false), .agg [.agg [.lit (.int .i64 0), .lit (.int .i64 0), .lit (.int .i64 0), .lit (.int .i64 0)], .lit (.int .i64 0), .lit (.int .i64 0), .lit (.int .i64 0)]], .agg [.agg [.lit (.int .i64 0), .lit (.int .i64 0), .lit (.int .i64 0), .lit (.int .i64 0)], .agg [.lit (.int .i64 0), .lit (.int .i64 0), .lit (.int .i64 0), .lit (.int .i64 0)]], .lit (.int .i64 0), .lit (.int .i64 0), .lit (.bool false), .lit (.bool false), .lit (.int .i64 0), .lit (.bool false), .lit (.int .i64 0), .lit (.int .i64 0)], .agg [.agg [.lit (.int .i64 0), .lit (.int .i64 0), .lit (.int .u8 0), .lit (.bool false), .lit (.bool false), .lit (.bool false), .agg [.agg [.lit (.int .i64 0), .lit (.int .i64 0), .lit (.int .i64 0), .lit (.int .i64 0)], .lit (.int .i64 0), .lit (.int .i64 0), .lit (.int .i64 0)]], .agg [.agg [.lit (.int .i64 0), .lit (.int .i64 0), .lit (.int .i64 0), .lit (.int .i64 0)], .agg [.lit (.int .i64 0), .lit (.int .i64 0), .lit (.int .i64 0), .lit (.int .i64 0)]], .lit (.int .i64 0), .lit (.int .i64 0), .lit (.bool false), .lit (.bool false), .lit (.int .i64 0), .lit (.bool false), .lit (.int .i64 0), .lit (.int .i64 0)]], [], places) :=
  ⟨[], by kernel_rfl⟩

set_option maxRecDepth 100000 in
theorem lifted (os : Os) (started : os.Started) (H : Type) (enc : TypeId × Value → H) (F : Stop.Interp) :
    ReturnsInHanded {} Tryz.checked os 4 .any ((OpenSpec.ofChange Rows.stateBackSpec).preRow enc Tryz.prog Tryz.f4 Rows.stateBackRow.domain false Rows.stateBackRow.laid) (((OpenSpec.ofChange Rows.stateBackSpec).at F).post enc Tryz.prog Tryz.f4 false true false false) := by
  obtain ⟨places, hx⟩ := reads os enc
  refine returnsInHanded_of_row (C := Tryz.checked) (s := OpenSpec.ofChange Rows.stateBackSpec) own started (by kernel_rfl) Tryz.func4
    (witness_row_atRef (enc := enc) (C := Tryz.checked) false (laidWorldSz os) #[Value.agg #[.int .i64 0, .int .i64 0, .int .u8 0, .bool false, .bool false, .bool false, .int .i64 0, .int .i64 0, .int .i64 0, .int .i64 0, .int .i64 0, .int .i64 0, .int .i64 0, .int .i64 0, .int .i64 0, .int .i64 0, .int .i64 0, .int .i64 0, .int .i64 0, .int .i64 0, .int .i64 0, .int .i64 0, .int .i64 0, .bool false, .bool false, .int .i64 0, .bool false, .int .i64 0, .int .i64 0], Value.agg #[.int .i64 0, .int .i64 0, .int .u8 0, .bool false, .bool false, .bool false, .int .i64 0, .int .i64 0, .int .i64 0, .int .i64 0, .int .i64 0, .int .i64 0, .int .i64 0, .int .i64 0, .int .i64 0, .int .i64 0, .int .i64 0, .int .i64 0, .int .i64 0, .int .i64 0, .int .i64 0, .int .i64 0, .int .i64 0, .bool false, .bool false, .int .i64 0, .bool false, .int .i64 0, .int .i64 0]] rfl (by kernel_rfl) (by kernel_rfl) (by kernel_rfl)
      (OpenSpec.preRow_of_cond 8 hx (by kernel_rfl) (fun k hk => by cases hk) (by kernel_rfl) (laid_met os))) ?_
  intro W base args ds gs before hval hW _ _ hreach hL _ _
  exact contract H enc W base args ds gs before hval hW hL hreach

theorem said : Rows.StateBackSaid :=
  OpenClaim.holds_of_cond 4 Tryz.f4 rfl rfl rfl rfl rfl rfl rfl ⟨rfl, rfl, rfl, rfl, rfl⟩ rfl rfl rfl rfl rfl (by kernel_rfl) Tryz.func4 (by kernel_rfl)
    (of_decide_eq_true (by kernel_rfl)) (by unfold Func.isWrapper; first | (rw [if_pos (by decide +kernel)]; kernel_rfl) | (rw [if_neg (by decide +kernel)]; exact ⟨rfl, rfl⟩))
    (fun os started H enc _ F => by rw [OpenClaim.pre_eq_preRow]; exact lifted os started H enc F)

theorem plain (f : FuncId) (fn : Func) (hf : Tryz.pinned.checked.prog.funcNamed "phosphor/phosphorlaw19.StateBack" = some f) (hfn : Tryz.pinned.checked.prog.funcs[f]? = some fn) :
    false = Tryz.pinned.checked.prog.looks [] ∧ ∀ (j : Nat) t, fn.params[j]? = some t → Tryz.pinned.checked.prog.wantsStandIn t = false := by
  obtain rfl : f = 4 := Option.some.inj ((show Tryz.prog.funcNamed "phosphor/phosphorlaw19.StateBack" = some 4 by kernel_rfl).symm.trans hf) |>.symm
  obtain rfl : fn = Tryz.f4 := (Option.some.inj (Tryz.func4.symm.trans hfn)).symm
  refine ⟨by kernel_rfl, fun j t ht => ?_⟩
  rw [Tryz.params4] at ht
  have hm : t ∈ [33, 33] := by simpa using Array.mem_of_getElem? ht
  have hall : ([33, 33].all fun u => !Tryz.prog.wantsStandIn u) = true := by kernel_rfl
  exact (show Tryz.prog.wantsStandIn t = false by simpa using List.all_eq_true.1 hall t hm)

/-- The card. -/
theorem card : Rows.StateBackCardSaid :=
  Claim7.holds_tied_plain_at .later [] _ _ _ _ said (fun _ h => by cases h) (by kernel_rfl) (fun _ h => by cases h) stateBack_row_tie rfl ⟨rfl, rfl⟩ (by kernel_rfl) rfl plain (by kernel_rfl)
#print axioms card
end Go.Proofs.YtfnamfkjbkhgeaaGreatDoor.stateBack

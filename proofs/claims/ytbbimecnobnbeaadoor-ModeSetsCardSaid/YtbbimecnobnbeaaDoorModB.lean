/-
  The walks of modes: is a number a mode's, its bit, set or not, without what is none, the mode of a number, its number, as at the beginning, what is told.
-/
import Derived.Test.YtbbimecnobnbeaaDoorModA
namespace Go.Proofs.YtbbimecnobnbeaaDoor
open Go Go.RowKit

set_option maxHeartbeats 1000000 in
theorem isMode_any (z : Int) (w : World) :
    Calls Tryd.prog 21 #[.int .i64 z] w fun e w' => e = .returned (.bool (isM z)) ∧ w = w' := by
  by_cases h0 : 0 ≤ z
  · have hd : decide (0 ≤ z) = true := by simpa using h0
    unfold isM
    rw [hd, Bool.true_and]
    go_enter Tryd.func21, Tryd.ntmps21
    go_wp2_with fail
    go_ret
    exact ⟨rfl, rfl⟩
  · have hd : decide (0 ≤ z) = false := by simpa using h0
    unfold isM
    rw [hd, Bool.false_and]
    go_enter Tryd.func21, Tryd.ntmps21
    go_wp2_with fail
    go_ret
    exact ⟨rfl, rfl⟩
theorem pow_wrap32 (k : Nat) (hk : k < 32) : IntKind.u32.wrap (2 ^ k : Int) = ((2 ^ k : Nat) : Int) := by
  have h := wrap_bv32 (BitVec.ofNat 32 (2 ^ k))
  rw [bv_eq (Nat.pow_lt_pow_right (by omega) hk)] at h
  rw [← h]
  push_cast
  rfl
set_option maxHeartbeats 1000000 in
theorem mbit_any (z : Int) (w : World) :
    Calls Tryd.prog 22 #[.int .i64 z] w fun e w' => e = .returned (.int .u32 (bitN z : Nat)) ∧ w = w' := by
  have HI := Lib.hid (fun W => isMode_any z W)
  unfold bitN
  rcases h : isM z with _ | _
  · rw [h] at HI
    clear h
    go_enter Tryd.func22, Tryd.ntmps22
    go_wp2_with fail
    refine (HI.out _).mono ?_
    rintro e w1 ⟨rfl, rfl⟩
    go_wp2_with fail
    go_ret
    exact ⟨rfl, rfl⟩
  · rw [h] at HI
    obtain ⟨k, rfl, hk⟩ := isM_nat z h
    have HP := Lib.hid (pow_wrap32 k (by omega))
    clear h
    go_enter Tryd.func22, Tryd.ntmps22
    go_wp2_with fail
    refine (HI.out _).mono ?_
    rintro e w1 ⟨rfl, rfl⟩
    go_wp2_with fail
    go_ret
    exact ⟨ret_int HP.out, rfl⟩
set_option maxHeartbeats 1000000 in
theorem with_any (m : Nat) (z : Int) (on : Bool) (w : World) :
    Calls Tryd.prog 12 #[.int .u32 m, .int .i64 z, .bool on] w fun e w' => e = .returned (.int .u32 (withN m z on : Nat)) ∧ w = w' := by
  have HB := Lib.hid (fun W => mbit_any z W)
  have HO := bits_orN m (bitN z); have HC := bits_clrN m (bitN z)
  unfold withN
  generalize orN m (bitN z) = ow at *
  generalize clrN m (bitN z) = cw at *
  generalize bitN z = b at *
  rcases on with _ | _
  · clear HO
    go_enter Tryd.func12, Tryd.ntmps12
    go_wp2_with fail
    refine (HB.out _).mono ?_
    rintro e w1 ⟨rfl, rfl⟩
    go_wp2_with fail
    go_ret
    exact ⟨rfl, rfl⟩
  · clear HC
    go_enter Tryd.func12, Tryd.ntmps12
    go_wp2_with fail
    refine (HB.out _).mono ?_
    rintro e w1 ⟨rfl, rfl⟩
    go_wp2_with fail
    go_ret
    exact ⟨rfl, rfl⟩
set_option maxHeartbeats 1000000 in
theorem has_any (m : Nat) (hm : m < 2 ^ 32) (z : Int) (w : World) :
    Calls Tryd.prog 14 #[.int .u32 m, .int .i64 z] w fun e w' => e = .returned (.bool (hasN m z)) ∧ w = w' := by
  have HB := Lib.hid (fun W => mbit_any z W)
  have HA := bits_andN m (bitN z); have HH := and_has m hm z
  generalize hasN m z = r at *
  generalize andN m (bitN z) = aw at *
  generalize bitN z = b at *
  clear hm
  go_enter Tryd.func14, Tryd.ntmps14
  go_wp2_with fail
  refine (HB.out _).mono ?_
  rintro e w1 ⟨rfl, rfl⟩
  go_wp2_with fail
  go_ret
  exact ⟨rfl, rfl⟩
set_option maxHeartbeats 1000000 in
theorem clear_any (m : Nat) (hm : m < 2 ^ 32) (w : World) :
    Calls Tryd.prog 16 #[.int .u32 m] w fun e w' => e = .returned (.int .u32 ((m % 131072 : Nat) : Int)) ∧ w = w' := by
  have HC := clear_bits m hm
  generalize m % 131072 = c at *
  clear hm
  go_enter Tryd.func16, Tryd.ntmps16
  go_wp2_with fail
  go_ret
  exact ⟨rfl, rfl⟩
/-- What Find answers. -/
def finV (x : Nat) : Value := .tuple #[.int .i64 ((if x < 17 then x else 0 : Nat) : Int), .bool (decide (x < 17))]
set_option maxRecDepth 100000 in
set_option maxHeartbeats 2000000 in
theorem mfind_any (dec : Bool) (n level : Int) (w : World) (ht : Mods w) :
    Calls Tryd.prog 8 #[.bool dec, .int .i64 n, .int .i64 level] w fun e w' => e = .returned (finV (fin dec n level)) ∧ Below w.heap.size w w' := by
  have HN := Lib.hid (fin_none dec n level); have HS := Lib.hid (fin_some dec n level)
  have HX : Hid (∀ (k : Nat), k < 17 → ∀ W, (Instr.index 48 modV (.int .i64 k)).run Tryd.prog W = .ok (factV k) W) := Lib.hid idx_mod
  have HT := Lib.hid ht
  have HL : Hid (∀ {ops : Array Oper} {rest : List Oper} {o : Oper} {a : Act} {Q : Exit → Act → World → Prop}, o.guard = none → ∀ (x : Operand), o.op = .load 48 x → a.eval x = .pointer (some ⟨0, 0, none⟩) → wpList Tryd.prog ops Q rest (a.put o.dst modV) w → wpList Tryd.prog ops Q (o :: rest) a w) := Lib.hid (fun h x ho hx hk => wpList_load_mod ht h x ho hx hk)
  generalize fin dec n level = r at *
  generalize modV = tv at *
  clear ht
  go_enter Tryd.func8, Tryd.ntmps8
  go_wp2_with (refine HL.out rfl _ rfl rfl ?_)
  go_loopw [11] (fun i wr => ∃ k : Nat, k ≤ 17 ∧ i = .int .i64 k ∧ Below w.heap.size w wr ∧ ∀ j, j < k → hitP dec n level j = false) (fun i _ => 17 - (intOf i).toNat)
  case atStart => exact ⟨0, by omega, rfl, Below.refl _ _, fun j h => by omega⟩
  case round =>
    obtain ⟨k, hk, rfl, hb, hno⟩ := hrel
    have HB := Lib.hid hb; have HNo := Lib.hid hno
    clear hb hno
    by_cases hlt : k < 17
    · have hx := HX.out k hlt
      unfold factV at hx
      have hw : IntKind.i64.wrap ((k : Int) + 1) = (k : Int) + 1 := IntWalk.i64_in _ (by omega)
      have hd : decide ((k : Int) < 17) = true := by simp; omega
      have hhit : Hid (hitP dec n level k = ((decP k == dec) && (numP k == n) && decide (frmP k ≤ level))) := Lib.hid rfl
      have HB2 := Lib.hid (HB.out.alloc HB.out.size (.cells #[.bool (decP k), .int .i64 (numP k), .int .i64 (frmP k), .bool (begP k)] 47))
      generalize decP k = d at *
      generalize numP k = nk at *
      generalize frmP k = fk at *
      generalize begP k = bk at *
      rcases g1 : (d == dec) with _ | _
      · have HNo2 : Hid (∀ j, j < k + 1 → hitP dec n level j = false) := Lib.hid (fun j h1 => by
          by_cases ej : j = k
          · rw [ej, hhit.out, g1]; rfl
          · exact HNo.out j (by omega))
        clear hhit
        go_wp2_with fail
        go_roundw
        case rel => exact ⟨k + 1, by omega, by first | rfl | go_num, HB2.out, HNo2.out⟩
        case measure => simp [intOf]; omega
      · rcases g2 : (nk == n) with _ | _
        · have HNo2 : Hid (∀ j, j < k + 1 → hitP dec n level j = false) := Lib.hid (fun j h1 => by
            by_cases ej : j = k
            · rw [ej, hhit.out, g1, g2]; rfl
            · exact HNo.out j (by omega))
          clear hhit
          go_wp2_with fail
          go_roundw
          case rel => exact ⟨k + 1, by omega, by first | rfl | go_num, HB2.out, HNo2.out⟩
          case measure => simp [intOf]; omega
        · rcases g3 : decide (fk ≤ level) with _ | _
          · have HNo2 : Hid (∀ j, j < k + 1 → hitP dec n level j = false) := Lib.hid (fun j h1 => by
              by_cases ej : j = k
              · rw [ej, hhit.out, g1, g2, g3]; rfl
              · exact HNo.out j (by omega))
            clear hhit
            go_wp2_with fail
            go_roundw
            case rel => exact ⟨k + 1, by omega, by first | rfl | go_num, HB2.out, HNo2.out⟩
            case measure => simp [intOf]; omega
          · have HR := Lib.hid (HS.out k hlt (by rw [hhit.out, g1, g2, g3]; rfl) HNo.out)
            have HV : Hid (Value.tuple #[.int .i64 (k : Int), .bool true] = finV k) := Lib.hid (by unfold finV; rw [if_pos hlt, decide_eq_true hlt])
            clear hhit
            go_wp2_with fail
            go_ret2
            exact ⟨by rw [HR.out, ← HV.out]; rfl, HB2.out⟩
    · obtain rfl : k = 17 := by omega
      have HR := Lib.hid (HN.out HNo.out)
      go_wp2_with fail
      go_ret2
      exact ⟨by rw [HR.out]; rfl, HB.out⟩
set_option maxRecDepth 100000 in
set_option maxHeartbeats 2000000 in
theorem number_any (z : Int) (w : World) (ht : Mods w) :
    Calls Tryd.prog 10 #[.int .i64 z] w fun e w' => e = .returned (.tuple #[.bool (if isM z then decP z.toNat else false), .int .i64 (if isM z then numP z.toNat else 0)]) ∧ Below w.heap.size w w' := by
  have HI := Lib.hid (fun W => isMode_any z W)
  rcases h : isM z with _ | _
  · rw [h] at HI
    clear h ht
    go_enter Tryd.func10, Tryd.ntmps10
    go_wp2_with fail
    refine (HI.out _).mono ?_
    rintro e w1 ⟨rfl, rfl⟩
    go_wp2_with fail
    go_ret2
    exact ⟨rfl, Below.refl _ _⟩
  · rw [h] at HI
    obtain ⟨k, rfl, hk⟩ := isM_nat z h
    simp only [if_true, Int.toNat_natCast]
    obtain ⟨c0, c1, c2, c3⟩ := ht.at_ k hk
    clear h ht c2 c3
    generalize decP k = d at *
    generalize numP k = nk at *
    go_enter Tryd.func10, Tryd.ntmps10
    go_wp2_with fail
    refine (HI.out _).mono ?_
    rintro e w1 ⟨rfl, rfl⟩
    go_wp2_with (go_quiet (fail))
    go_ret2
    exact ⟨rfl, below_drewN (Below.refl _ _) _⟩
set_option maxRecDepth 100000 in
set_option maxHeartbeats 2000000 in
theorem mbegin_any (w : World) (ht : Mods w) :
    Calls Tryd.prog 17 #[] w fun e w' => e = .returned (.int .u32 2948) ∧ Below w.heap.size w w' := by
  have HX : Hid (∀ (k : Nat), k < 17 → ∀ W, (Instr.index 48 modV (.int .i64 k)).run Tryd.prog W = .ok (factV k) W) := Lib.hid idx_mod
  have HL : Hid (∀ {ops : Array Oper} {rest : List Oper} {o : Oper} {a : Act} {Q : Exit → Act → World → Prop}, o.guard = none → ∀ (x : Operand), o.op = .load 48 x → a.eval x = .pointer (some ⟨0, 0, none⟩) → wpList Tryd.prog ops Q rest (a.put o.dst modV) w → wpList Tryd.prog ops Q (o :: rest) a w) := Lib.hid (fun h x ho hx hk => wpList_load_mod ht h x ho hx hk)
  have HW : Hid (∀ (m : Nat) (z : Int) (on : Bool) W, Calls Tryd.prog 12 #[.int .u32 m, .int .i64 z, .bool on] W fun e w' => e = .returned (.int .u32 (withN m z on : Nat)) ∧ W = w') := Lib.hid with_any
  have HG := Lib.hid begT_ok; have HE := Lib.hid begT_17
  generalize modV = tv at *
  clear ht
  go_enter Tryd.func17, Tryd.ntmps17
  go_wp2_with (refine HL.out rfl _ rfl rfl ?_)
  go_loopw [1, 5] (fun m i wr => ∃ k : Nat, k ≤ 17 ∧ m = .int .u32 (begT k : Nat) ∧ i = .int .i64 k ∧ Below w.heap.size w wr) (fun _ i _ => 17 - (intOf i).toNat)
  case atStart => exact ⟨0, by omega, rfl, rfl, Below.refl _ _⟩
  case round =>
    obtain ⟨k, hk, rfl, rfl, hb⟩ := hrel
    have HB := Lib.hid hb
    clear hb
    by_cases hlt : k < 17
    · have hx := HX.out k hlt
      unfold factV at hx
      have hw : IntKind.i64.wrap ((k : Int) + 1) = (k : Int) + 1 := IntWalk.i64_in _ (by omega)
      have hd : decide ((k : Int) < 17) = true := by simp; omega
      have HB2 := Lib.hid (HB.out.alloc HB.out.size (.cells #[.bool (decP k), .int .i64 (numP k), .int .i64 (frmP k), .bool (begP k)] 47))
      have HWk := Lib.hid (HW.out (begT k) k (begP k))
      rw [(HG.out k hlt).1] at HWk
      generalize hb2 : begT (k + 1) = b2 at *
      have HB3 := Lib.hid hb2
      clear hb2
      generalize decP k = d at *
      generalize numP k = nk at *
      generalize frmP k = fk at *
      generalize begP k = bk at *
      go_wp2_with fail
      refine (HWk.out _).mono ?_
      rintro e w1 ⟨rfl, rfl⟩
      go_wp2_with fail
      go_roundw
      case rel => exact ⟨k + 1, by omega, by rw [HB3.out], by first | rfl | go_num, HB2.out⟩
      case measure => simp [intOf]; omega
    · obtain rfl : k = 17 := by omega
      have he := HE.out
      rw [he]
      go_wp2_with fail
      go_ret
      exact ⟨rfl, HB.out⟩
set_option maxRecDepth 100000 in
set_option maxHeartbeats 2000000 in
theorem never_any (n : Int) (w : World) :
    Calls Tryd.prog 24 #[.int .i64 n] w fun e w' => e = .returned (.bool (nevP n)) ∧ w = w' := by
  have hc : (n = 1 ∨ n = 5 ∨ n = 7 ∨ n = 10 ∨ n = 11 ∨ n = 13 ∨ n = 14 ∨ n = 15 ∨ n = 16 ∨ n = 17 ∨ n = 18 ∨ n = 19) ∨ (nevP n = false ∧ (n == 1) = false ∧ (n == 5) = false ∧ (n == 7) = false ∧ (n == 10) = false ∧ (n == 11) = false ∧ (n == 13) = false ∧ (n == 14) = false ∧ (n == 15) = false ∧ (n == 16) = false ∧ (n == 17) = false ∧ (n == 18) = false ∧ (n == 19) = false) := by
    simp only [nevP, Bool.or_eq_false_iff, Bool.and_eq_false_iff, beq_eq_false_iff_ne, decide_eq_false_iff_not]
    omega
  rcases hc with hc | ⟨e, h1, h2, h3, h4, h5, h6, h7, h8, h9, h10, h11, h12⟩
  · rcases hc with rfl | rfl | rfl | rfl | rfl | rfl | rfl | rfl | rfl | rfl | rfl | rfl
    all_goals
      go_enter Tryd.func24, Tryd.ntmps24
      go_wp2_with fail
      go_ret
      exact ⟨rfl, rfl⟩
  · rw [e]
    clear e
    go_enter Tryd.func24, Tryd.ntmps24
    go_wp2_with fail
    go_ret
    exact ⟨rfl, rfl⟩
set_option maxRecDepth 100000 in
set_option maxHeartbeats 2000000 in
theorem ask_any (m : Nat) (hm : m < 2 ^ 32) (dec : Bool) (n level : Int) (w : World) (ht : Mods w) :
    Calls Tryd.prog 19 #[.int .u32 m, .bool dec, .int .i64 n, .int .i64 level] w fun e w' => e = .returned (.int .i64 (askP m dec n level)) ∧ Below w.heap.size w w' := by
  have HF := Lib.hid (mfind_any dec n level w ht)
  have HH : Hid (∀ z W, Calls Tryd.prog 14 #[.int .u32 m, .int .i64 z] W fun e w' => e = .returned (.bool (hasN m z)) ∧ W = w') := Lib.hid (has_any m hm)
  have HV := Lib.hid (fun W => never_any n W)
  unfold askP
  unfold finV at HF
  generalize fin dec n level = r at *
  clear ht hm
  by_cases hr : r < 17
  · rw [if_pos hr, decide_eq_true hr] at HF
    rw [if_pos hr]
    have HHr := Lib.hid (HH.out r)
    rcases hh : hasN m r with _ | _
    all_goals
      rw [hh] at HHr
      clear HV hh
      go_enter Tryd.func19, Tryd.ntmps19
      go_wp2_with fail
      refine HF.out.mono ?_
      rintro e w1 ⟨rfl, hb1⟩
      have HB := Lib.hid hb1
      clear hb1
      go_wp2_with fail
      refine (HHr.out _).mono ?_
      rintro e w1 ⟨rfl, rfl⟩
      go_wp2_with fail
      go_ret
      exact ⟨rfl, HB.out⟩
  · rw [if_neg hr, decide_eq_false hr] at HF
    rw [if_neg hr]
    rcases dec with _ | _
    · simp only [Bool.not_false, Bool.true_and]
      rcases hn : nevP n with _ | _
      all_goals
        rw [hn] at HV
        clear HH hn
        go_enter Tryd.func19, Tryd.ntmps19
        go_wp2_with fail
        refine HF.out.mono ?_
        rintro e w1 ⟨rfl, hb1⟩
        have HB := Lib.hid hb1
        clear hb1
        go_wp2_with fail
        refine (HV.out _).mono ?_
        rintro e w1 ⟨rfl, rfl⟩
        go_wp2_with fail
        go_ret
        exact ⟨rfl, HB.out⟩
    · clear HH HV
      go_enter Tryd.func19, Tryd.ntmps19
      go_wp2_with fail
      refine HF.out.mono ?_
      rintro e w1 ⟨rfl, hb1⟩
      have HB := Lib.hid hb1
      clear hb1
      go_wp2_with fail
      go_ret
      exact ⟨rfl, HB.out⟩
end Go.Proofs.YtbbimecnobnbeaaDoor

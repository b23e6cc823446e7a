/-
  The walks of the reference's table of modes, bits, sets; what it finds and tells.
-/
import Derived.Test.YtbbimecnobnbeaaDoorModB
namespace Go.Proofs.YtbbimecnobnbeaaDoor
open Go Go.RowKit

/-- A row of the table. -/
def rowV (z : Int) : Value := if isM z then .tuple #[.bool (decP z.toNat), .int .i64 (numP z.toNat), .int .i64 (frmP z.toNat), .bool (begP z.toNat)] else .tuple #[.bool false, .int .i64 0, .int .i64 0, .bool false]
set_option maxRecDepth 100000 in
set_option maxHeartbeats 4000000 in
theorem row_any (z : Int) (w : World) :
    Calls Tryd.prog 11 #[.int .i64 z] w fun e w' => e = .returned (rowV z) ∧ w = w' := by
  have hc : (z = 0 ∨ z = 1 ∨ z = 2 ∨ z = 3 ∨ z = 4 ∨ z = 5 ∨ z = 6 ∨ z = 7 ∨ z = 8 ∨ z = 9 ∨ z = 10 ∨ z = 11 ∨ z = 12 ∨ z = 13 ∨ z = 14 ∨ z = 15 ∨ z = 16) ∨ (isM z = false ∧ (z == 0) = false ∧ (z == 1) = false ∧ (z == 2) = false ∧ (z == 3) = false ∧ (z == 4) = false ∧ (z == 5) = false ∧ (z == 6) = false ∧ (z == 7) = false ∧ (z == 8) = false ∧ (z == 9) = false ∧ (z == 10) = false ∧ (z == 11) = false ∧ (z == 12) = false ∧ (z == 13) = false ∧ (z == 14) = false ∧ (z == 15) = false ∧ (z == 16) = false) := by
    simp only [isM, Bool.and_eq_false_iff, beq_eq_false_iff_ne, decide_eq_false_iff_not]
    omega
  rcases hc with hc | ⟨e, h0, h1, h2, h3, h4, h5, h6, h7, h8, h9, h10, h11, h12, h13, h14, h15, h16⟩
  · rcases hc with rfl | rfl | rfl | rfl | rfl | rfl | rfl | rfl | rfl | rfl | rfl | rfl | rfl | rfl | rfl | rfl | rfl
    all_goals
      go_enter Tryd.func11, Tryd.ntmps11
      go_wp2_with fail
      exact bodyPost_ret (v := rowV _) (by simp [results, Tryd.results11, go_sem, rowV, isM, decP, numP, frmP, begP]) rfl ⟨rfl, rfl⟩
  · unfold rowV
    rw [e]
    clear e
    go_enter Tryd.func11, Tryd.ntmps11
    go_wp2_with fail
    exact bodyPost_ret (v := .tuple #[.bool false, .int .i64 0, .int .i64 0, .bool false]) (by simp [results, Tryd.results11, go_sem]) rfl ⟨rfl, rfl⟩
set_option maxHeartbeats 1000000 in
theorem rbit_any (k : Nat) (hk : k < 17) (w : World) :
    Calls Tryd.prog 23 #[.int .i64 k] w fun e w' => e = .returned (.int .i64 ((2 ^ k : Nat) : Int)) ∧ w = w' := by
  have HP : Hid (∀ i, i < k → IntKind.i64.wrap (2 * ((2 ^ i : Nat) : Int)) = ((2 ^ (i + 1) : Nat) : Int)) := Lib.hid (fun i hi => by
    have h1 : 2 ^ i < 2 ^ 17 := Nat.pow_lt_pow_right (by omega) (by omega)
    rw [Nat.pow_succ]
    generalize 2 ^ i = p at *
    exact (IntWalk.i64_in _ (by omega)).trans (by omega))
  go_enter Tryd.func23, Tryd.ntmps23
  go_wp2_with fail
  go_loopw [3, 4] (fun n i wr => ∃ j : Nat, j ≤ k ∧ n = .int .i64 ((2 ^ j : Nat) : Int) ∧ i = .int .i64 j ∧ wr = w) (fun _ i _ => k - (intOf i).toNat)
  case atStart => exact ⟨0, by omega, rfl, rfl, rfl⟩
  case round =>
    obtain ⟨j, hj, rfl, rfl, rfl⟩ := hrel
    by_cases hlt : j < k
    · have hp := HP.out j hlt
      have hw : IntKind.i64.wrap ((j : Int) + 1) = (j : Int) + 1 := IntWalk.i64_in _ (by omega)
      have hd : decide (j < k) = true := by simpa using hlt
      generalize hq : ((2 ^ (j + 1) : Nat) : Int) = q at *
      have HQ := Lib.hid hq
      clear hq
      generalize ((2 ^ j : Nat) : Int) = p at *
      go_wp2_with fail
      go_roundw
      case rel => exact ⟨j + 1, by omega, by rw [HQ.out], by first | rfl | go_num, by first | rfl | trivial⟩
      case measure => simp [intOf]; omega
    · obtain rfl : j = k := by omega
      generalize hp : ((2 ^ j : Nat) : Int) = p at *
      have HP2 := Lib.hid hp
      clear hp
      go_wp2_with fail
      go_ret
      exact ⟨by rw [HP2.out]; rfl, rfl⟩
theorem bitN_nat (k : Nat) (hk : k < 17) : bitN (k : Int) = 2 ^ k := by
  unfold bitN
  rw [(isM_iff _).2 ⟨by omega, by omega⟩]
  rfl
set_option maxRecDepth 100000 in
set_option maxHeartbeats 2000000 in
theorem rhas_any (m : Nat) (hm : m < 2 ^ 32) (z : Int) (w : World) :
    Calls Tryd.prog 15 #[.int .i64 m, .int .i64 z] w fun e w' => e = .returned (.bool (hasN m z)) ∧ w = w' := by
  by_cases h0 : 0 ≤ z
  · have hd0 : decide (0 ≤ z) = true := by simpa using h0
    by_cases h1 : z < 17
    · have hd1 : decide (z < 17) = true := by simpa using h1
      obtain ⟨k, rfl⟩ : ∃ k : Nat, z = k := ⟨z.toNat, by omega⟩
      have HB := Lib.hid (fun W => rbit_any k (by omega) W)
      have hr : hasN m (k : Int) = (((m / 2 ^ k % 2 : Nat) : Int) == 1) := by
        unfold hasN
        rw [(isM_iff _).2 ⟨by omega, by omega⟩, Bool.true_and, Int.toNat_natCast, Nat.testBit_eq_decide_div_mod_eq]
        generalize m / 2 ^ k % 2 = q
        rw [Bool.eq_iff_iff, decide_eq_true_iff, beq_iff_eq]
        omega
      have hpos : 0 < 2 ^ k := Nat.two_pow_pos k
      have hq : (m : Int).tdiv ((2 ^ k : Nat) : Int) = ((m / 2 ^ k : Nat) : Int) := by rw [Int.tdiv_eq_ediv_of_nonneg (Int.natCast_nonneg _)]; rfl
      have hle : m / 2 ^ k ≤ m := Nat.div_le_self _ _
      have hrm : ((m / 2 ^ k : Nat) : Int).tmod 2 = ((m / 2 ^ k % 2 : Nat) : Int) := by rw [Int.tmod_eq_emod_of_nonneg (Int.natCast_nonneg _)]; rfl
      have hne : (((2 ^ k : Nat) : Int) == 0) = false := by rw [beq_eq_false_iff_ne]; omega
      rw [hr]
      clear hr
      generalize 2 ^ k = p at *
      generalize hqq : m / p = q at *
      generalize q % 2 = r at *
      have hw1 : IntKind.i64.wrap (q : Int) = q := IntWalk.i64_in _ (by omega)
      clear hqq
      go_enter Tryd.func15, Tryd.ntmps15
      go_wp2_with fail
      refine (HB.out _).mono ?_
      rintro e w1 ⟨rfl, rfl⟩
      go_wp2_with fail
      go_ret
      exact ⟨rfl, rfl⟩
    · have hd1 : decide (z < 17) = false := by simpa using h1
      have hr : hasN m z = false := by unfold hasN isM; rw [show decide (z ≤ 16) = false from by simp; omega]; simp
      rw [hr]
      clear hr
      go_enter Tryd.func15, Tryd.ntmps15
      go_wp2_with fail
      go_ret
      exact ⟨rfl, rfl⟩
  · have hd0 : decide (0 ≤ z) = false := by simpa using h0
    have hr : hasN m z = false := by unfold hasN isM; rw [hd0]; simp
    rw [hr]
    clear hr
    go_enter Tryd.func15, Tryd.ntmps15
    go_wp2_with fail
    go_ret
    exact ⟨rfl, rfl⟩
set_option maxRecDepth 100000 in
set_option maxHeartbeats 2000000 in
theorem rwith_any (m : Nat) (hm : m < 2 ^ 32) (z : Int) (on : Bool) (w : World) :
    Calls Tryd.prog 13 #[.int .i64 m, .int .i64 z, .bool on] w fun e w' => e = .returned (.int .i64 (withN m z on : Nat)) ∧ w = w' := by
  have HH := Lib.hid (fun W => rhas_any m hm z W)
  have hlt : m + bitN z < 2 ^ 33 := by have := bitN_lt z; omega
  rw [withN_R m hm]
  unfold withR
  by_cases h0 : z < 0
  · have hd0 : decide (z < 0) = true := by simpa using h0
    rw [if_pos (.inl (by unfold isM; rw [show decide (0 ≤ z) = false from by simp; omega]; rfl))]
    clear HH hlt
    go_enter Tryd.func13, Tryd.ntmps13
    go_wp2_with fail
    go_ret
    exact ⟨rfl, rfl⟩
  · have hd0 : decide (z < 0) = false := by simpa using h0
    by_cases h1 : 17 ≤ z
    · have hd1 : decide (17 ≤ z) = true := by simpa using h1
      rw [if_pos (.inl (by unfold isM; rw [show decide (z ≤ 16) = false from by simp; omega]; simp))]
      clear HH hlt
      go_enter Tryd.func13, Tryd.ntmps13
      go_wp2_with fail
      go_ret
      exact ⟨rfl, rfl⟩
    · have hd1 : decide (17 ≤ z) = false := by simpa using h1
      obtain ⟨k, rfl⟩ : ∃ k : Nat, z = k := ⟨z.toNat, by omega⟩
      have hk : k < 17 := by omega
      have hi : isM (k : Int) = true := (isM_iff _).2 ⟨by omega, by omega⟩
      have HB := Lib.hid (fun W => rbit_any k (by omega) W)
      have hge : hasN m (k : Int) = true → 2 ^ k ≤ m := fun h => by
        unfold hasN at h
        rw [hi, Bool.true_and, Int.toNat_natCast] at h
        exact Nat.ge_two_pow_of_testBit h
      rw [bitN_nat k hk] at hlt ⊢
      rw [hi]
      generalize hasN m (k : Int) = has at *
      generalize 2 ^ k = p at *
      rcases has with _ | _ <;> rcases on with _ | _
      · rw [if_pos (.inr rfl)]
        clear HB hge
        go_enter Tryd.func13, Tryd.ntmps13
        go_wp2_with fail
        refine (HH.out _).mono ?_
        rintro e w1 ⟨rfl, rfl⟩
        go_wp2_with fail
        go_ret
        exact ⟨rfl, rfl⟩
      · rw [if_neg (by simp)]
        have hw : IntKind.i64.wrap ((m : Int) + (p : Int)) = ((m + p : Nat) : Int) := (IntWalk.i64_in _ (by omega)).trans (by omega)
        have HW := Lib.hid hw
        clear hge hw
        go_enter Tryd.func13, Tryd.ntmps13
        go_wp2_with fail
        refine (HH.out _).mono ?_
        rintro e w1 ⟨rfl, rfl⟩
        go_wp2_with fail
        refine (HB.out _).mono ?_
        rintro e w1 ⟨rfl, rfl⟩
        go_wp2_with fail
        go_ret
        exact ⟨rfl, rfl⟩
      · rw [if_neg (by simp)]
        have hge2 := hge rfl
        have hw : IntKind.i64.wrap ((m : Int) - (p : Int)) = ((m - p : Nat) : Int) := (IntWalk.i64_in _ (by omega)).trans (by omega)
        clear hge hge2
        simp only [Bool.false_eq_true, if_false]
        generalize m - p = q at *
        go_enter Tryd.func13, Tryd.ntmps13
        go_wp2_with fail
        refine (HH.out _).mono ?_
        rintro e w1 ⟨rfl, rfl⟩
        go_wp2_with fail
        refine (HB.out _).mono ?_
        rintro e w1 ⟨rfl, rfl⟩
        go_wp2_with fail
        go_ret
        exact ⟨rfl, rfl⟩
      · rw [if_pos (.inr rfl)]
        clear HB hge
        go_enter Tryd.func13, Tryd.ntmps13
        go_wp2_with fail
        refine (HH.out _).mono ?_
        rintro e w1 ⟨rfl, rfl⟩
        go_wp2_with fail
        go_ret
        exact ⟨rfl, rfl⟩
theorem begT_step : ∀ k, k < 17 → begT k + (if begP k then 2 ^ k else 0) = begT (k + 1) ∧ begT (k + 1) < 2 ^ 18 := by decide +kernel
set_option maxRecDepth 100000 in
set_option maxHeartbeats 2000000 in
theorem rbegin_any (w : World) :
    Calls Tryd.prog 18 #[] w fun e w' => e = .returned (.int .i64 2948) ∧ w = w' := by
  have HR : Hid (∀ z W, Calls Tryd.prog 11 #[.int .i64 z] W fun e w' => e = .returned (rowV z) ∧ W = w') := Lib.hid row_any
  have HB : Hid (∀ (k : Nat), k < 17 → ∀ W, Calls Tryd.prog 23 #[.int .i64 k] W fun e w' => e = .returned (.int .i64 ((2 ^ k : Nat) : Int)) ∧ W = w') := Lib.hid rbit_any
  have HG := Lib.hid begT_step; have HE := Lib.hid begT_17
  go_enter Tryd.func18, Tryd.ntmps18
  go_wp2_with fail
  go_loopw [1, 2] (fun m i wr => ∃ k : Nat, k ≤ 17 ∧ m = .int .i64 (begT k : Nat) ∧ i = .int .i64 k ∧ wr = w) (fun _ i _ => 17 - (intOf i).toNat)
  case atStart => exact ⟨0, by omega, rfl, rfl, rfl⟩
  case round =>
    obtain ⟨k, hk, rfl, rfl, rfl⟩ := hrel
    by_cases hlt : k < 17
    · have hw : IntKind.i64.wrap ((k : Int) + 1) = (k : Int) + 1 := IntWalk.i64_in _ (by omega)
      have hd : decide ((k : Int) < 17) = true := by simp; omega
      have HRk := Lib.hid (HR.out k)
      have HBk := Lib.hid (HB.out k hlt)
      unfold rowV at HRk
      rw [(isM_iff _).2 ⟨by omega, by omega⟩] at HRk
      simp only [if_true, Int.toNat_natCast] at HRk
      obtain ⟨g1, g2⟩ := HG.out k hlt
      generalize hb2 : begT (k + 1) = b2 at *
      have HB3 := Lib.hid hb2
      clear hb2
      generalize begT k = b1 at *
      generalize decP k = d at *
      generalize numP k = nk at *
      generalize frmP k = fk at *
      generalize 2 ^ k = p at *
      rcases hbk : begP k with _ | _
      · rw [hbk] at HRk g1
        obtain rfl : b1 = b2 := by simpa using g1
        clear g1 g2 hbk
        go_wp2_with fail
        refine (HRk.out _).mono ?_
        rintro e w1 ⟨rfl, rfl⟩
        go_wp2_with fail
        go_roundw
        case rel => exact ⟨k + 1, by omega, by rw [HB3.out], by first | rfl | go_num, by first | rfl | trivial⟩
        case measure => simp [intOf]; omega
      · rw [hbk] at HRk g1
        have e1 : b1 + p = b2 := by simpa using g1
        have hw2 : IntKind.i64.wrap ((b1 : Int) + (p : Int)) = (b2 : Int) := (IntWalk.i64_in _ (by omega)).trans (by omega)
        clear g1 g2 hbk e1
        go_wp2_with fail
        refine (HRk.out _).mono ?_
        rintro e w1 ⟨rfl, rfl⟩
        go_wp2_with fail
        refine (HBk.out _).mono ?_
        rintro e w1 ⟨rfl, rfl⟩
        go_wp2_with fail
        go_roundw
        case rel => exact ⟨k + 1, by omega, by rw [HB3.out], by first | rfl | go_num, by first | rfl | trivial⟩
        case measure => simp [intOf]; omega
    · obtain rfl : k = 17 := by omega
      have he := HE.out
      rw [he]
      go_wp2_with fail
      go_ret
      exact ⟨rfl, rfl⟩
/-- What the reference finds. -/
def rfinN (x : Nat) : Int := if x < 17 then x else -1
set_option maxRecDepth 100000 in
set_option maxHeartbeats 2000000 in
theorem rfind_any (dec : Bool) (n level : Int) (w : World) :
    Calls Tryd.prog 9 #[.bool dec, .int .i64 n, .int .i64 level] w fun e w' => e = .returned (.int .i64 (rfinN (fin dec n level))) ∧ w = w' := by
  have HR : Hid (∀ z W, Calls Tryd.prog 11 #[.int .i64 z] W fun e w' => e = .returned (rowV z) ∧ W = w') := Lib.hid row_any
  have HN := Lib.hid (fin_none dec n level); have HS := Lib.hid (fin_some dec n level)
  generalize fin dec n level = r at *
  go_enter Tryd.func9, Tryd.ntmps9
  go_wp2_with fail
  go_loopw [7] (fun i wr => ∃ k : Nat, k ≤ 17 ∧ i = .int .i64 k ∧ wr = w ∧ ∀ j, j < k → hitP dec n level j = false) (fun i _ => 17 - (intOf i).toNat)
  case atStart => exact ⟨0, by omega, rfl, rfl, fun j h => by omega⟩
  case round =>
    obtain ⟨k, hk, rfl, rfl, hno⟩ := hrel
    have HNo := Lib.hid hno
    clear hno
    by_cases hlt : k < 17
    · have hw : IntKind.i64.wrap ((k : Int) + 1) = (k : Int) + 1 := IntWalk.i64_in _ (by omega)
      have hd : decide ((k : Int) < 17) = true := by simp; omega
      have HRk := Lib.hid (HR.out k)
      unfold rowV at HRk
      rw [(isM_iff _).2 ⟨by omega, by omega⟩] at HRk
      simp only [if_true, Int.toNat_natCast] at HRk
      have hhit : Hid (hitP dec n level k = ((decP k == dec) && (numP k == n) && decide (frmP k ≤ level))) := Lib.hid rfl
      generalize decP k = d at *
      generalize numP k = nk at *
      generalize frmP k = fk at *
      generalize begP k = bk at *
      rcases g1 : (d == dec) with _ | _
      · have HNo2 : Hid (∀ j, j < k + 1 → hitP dec n level j = false) := Lib.hid (fun j h1 => by
          by_cases ej : j = k
          · rw [ej, hhit.out, g1]; rfl
          · exact HNo.out j (by omega))
        clear hhit
        go_wp2_with fail
        refine (HRk.out _).mono ?_
        rintro e w1 ⟨rfl, rfl⟩
        go_wp2_with fail
        go_roundw
        case rel => exact ⟨k + 1, by omega, by first | rfl | go_num, by first | rfl | trivial, HNo2.out⟩
        case measure => simp [intOf]; omega
      · rcases g2 : (nk == n) with _ | _
        · have HNo2 : Hid (∀ j, j < k + 1 → hitP dec n level j = false) := Lib.hid (fun j h1 => by
            by_cases ej : j = k
            · rw [ej, hhit.out, g1, g2]; rfl
            · exact HNo.out j (by omega))
          clear hhit
          go_wp2_with fail
          refine (HRk.out _).mono ?_
          rintro e w1 ⟨rfl, rfl⟩
          go_wp2_with fail
          go_roundw
          case rel => exact ⟨k + 1, by omega, by first | rfl | go_num, by first | rfl | trivial, HNo2.out⟩
          case measure => simp [intOf]; omega
        · rcases g3 : decide (fk ≤ level) with _ | _
          · have HNo2 : Hid (∀ j, j < k + 1 → hitP dec n level j = false) := Lib.hid (fun j h1 => by
              by_cases ej : j = k
              · rw [ej, hhit.out, g1, g2, g3]; rfl
              · exact HNo.out j (by omega))
            clear hhit
            go_wp2_with fail
            refine (HRk.out _).mono ?_
            rintro e w1 ⟨rfl, rfl⟩
            go_wp2_with fail
            go_roundw
            case rel => exact ⟨k + 1, by omega, by first | rfl | go_num, by first | rfl | trivial, HNo2.out⟩
            case measure => simp [intOf]; omega
          · have HQ := Lib.hid (HS.out k hlt (by rw [hhit.out, g1, g2, g3]; rfl) HNo.out)
            have HV : Hid (rfinN k = k) := Lib.hid (by unfold rfinN; rw [if_pos hlt])
            clear hhit
            go_wp2_with fail
            refine (HRk.out _).mono ?_
            rintro e w1 ⟨rfl, rfl⟩
            go_wp2_with fail
            go_ret
            exact ⟨by rw [HQ.out, HV.out]; rfl, rfl⟩
    · obtain rfl : k = 17 := by omega
      have HQ := Lib.hid (HN.out HNo.out)
      go_wp2_with fail
      go_ret
      exact ⟨by rw [HQ.out]; rfl, rfl⟩
theorem nev_eq (n : Int) : nevP n = (n == 1 || n == 5 || n == 7 || n == 10 || n == 11 || (decide (13 ≤ n) && decide (n ≤ 19))) := rfl
set_option maxRecDepth 100000 in
set_option maxHeartbeats 4000000 in
theorem rask_any (m : Nat) (hm : m < 2 ^ 32) (dec : Bool) (n level : Int) (w : World) :
    Calls Tryd.prog 20 #[.int .i64 m, .bool dec, .int .i64 n, .int .i64 level] w fun e w' => e = .returned (.int .i64 (askP m dec n level)) ∧ w = w' := by
  have HF := Lib.hid (fun W => rfind_any dec n level W)
  have HH : Hid (∀ z W, Calls Tryd.prog 15 #[.int .i64 m, .int .i64 z] W fun e w' => e = .returned (.bool (hasN m z)) ∧ W = w') := Lib.hid (rhas_any m hm)
  unfold askP
  unfold rfinN at HF
  generalize fin dec n level = r at *
  clear hm
  by_cases hr : r < 17
  · rw [if_pos hr] at HF
    rw [if_pos hr]
    have HHr := Lib.hid (HH.out r)
    rcases hh : hasN m r with _ | _
    all_goals
      rw [hh] at HHr
      clear hh
      go_enter Tryd.func20, Tryd.ntmps20
      go_wp2_with fail
      refine (HF.out _).mono ?_
      rintro e w1 ⟨rfl, rfl⟩
      go_wp2_with fail
      refine (HHr.out _).mono ?_
      rintro e w1 ⟨rfl, rfl⟩
      go_wp2_with fail
      go_ret
      exact ⟨rfl, rfl⟩
  · rw [if_neg hr] at HF
    rw [if_neg hr]
    rcases dec with _ | _
    · simp only [Bool.not_false, Bool.true_and]
      clear HH
      have hc : (nevP n = true ∧ (n = 1 ∨ n = 5 ∨ n = 7 ∨ n = 10 ∨ n = 11)) ∨ (nevP n = true ∧ (n == 1) = false ∧ (n == 5) = false ∧ (n == 7) = false ∧ (n == 10) = false ∧ (n == 11) = false ∧ decide (13 ≤ n) = true ∧ decide (n ≤ 19) = true) ∨ (nevP n = false ∧ (n == 1) = false ∧ (n == 5) = false ∧ (n == 7) = false ∧ (n == 10) = false ∧ (n == 11) = false ∧ decide (13 ≤ n) = false) ∨ (nevP n = false ∧ (n == 1) = false ∧ (n == 5) = false ∧ (n == 7) = false ∧ (n == 10) = false ∧ (n == 11) = false ∧ decide (13 ≤ n) = true ∧ decide (n ≤ 19) = false) := by
        simp only [nevP, Bool.or_eq_false_iff, Bool.and_eq_false_iff, Bool.or_eq_true, Bool.and_eq_true, beq_eq_false_iff_ne, beq_iff_eq, decide_eq_false_iff_not, decide_eq_true_iff]
        omega
      rcases hc with ⟨e, rfl | rfl | rfl | rfl | rfl⟩ | ⟨e, h1, h2, h3, h4, h5, h6, h7⟩ | ⟨e, h1, h2, h3, h4, h5, h6⟩ | ⟨e, h1, h2, h3, h4, h5, h6, h7⟩
      all_goals
        rw [e]
        clear e
        go_enter Tryd.func20, Tryd.ntmps20
        go_wp2_with fail
        refine (HF.out _).mono ?_
        rintro e w1 ⟨rfl, rfl⟩
        go_wp2_with fail
        go_ret
        exact ⟨rfl, rfl⟩
    · clear HH
      go_enter Tryd.func20, Tryd.ntmps20
      go_wp2_with fail
      refine (HF.out _).mono ?_
      rintro e w1 ⟨rfl, rfl⟩
      go_wp2_with fail
      go_ret
      exact ⟨rfl, rfl⟩
end Go.Proofs.YtbbimecnobnbeaaDoor

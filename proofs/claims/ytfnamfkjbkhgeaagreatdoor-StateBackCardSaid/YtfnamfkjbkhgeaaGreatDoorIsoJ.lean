/-
  States of sets: what the reference tells of one.
-/
import Derived.Test.YtfnamfkjbkhgeaaGreatDoorIsoD
import Derived.Test.YtfnamfkjbkhgeaaGreatDoorChsO
namespace Go.Proofs.YtfnamfkjbkhgeaaGreatDoor

open Go Go.RowKit

theorem wideI_dec (x : Int) : wideP (setN x) = (x == 5) := by
  unfold setN wideP
  split
  · rename_i h
    rw [Bool.eq_iff_iff, beq_iff_eq, beq_iff_eq]
    omega
  · rename_i h
    rw [Bool.eq_iff_iff, beq_iff_eq, beq_iff_eq]
    omega
theorem refWideI_any (x : Int) (w : World) : Calls Tryz.prog 76 #[.int .i64 x] w fun e w' => e = .returned (.bool (wideP (setN x))) ∧ w = w' := by
  rw [wideI_dec]
  go_enter Tryz.func76, Tryz.ntmps76
  go_wp2_with fail
  go_ret
  exact ⟨rfl, rfl⟩
set_option maxRecDepth 100000 in
set_option maxHeartbeats 8000000 in
theorem refReport_any (x : Iso) (w : World) :
    Calls Tryz.prog 32 #[x.val] w fun e w' => e = .returned (.tuple #[.int .u8 (sizP x 4), .string (idtP x 4)]) ∧ Below w.heap.size w w' := by
  have HW := Lib.hid (fun n W => refWideI_any n W)
  have HId := Lib.hid (fun n W => cRefId_any n W)
  have HB0 := Lib.hid (show Below w.heap.size w (w.alloc (.cells x.cs 25)) from (Below.refl _ _).alloc (Nat.le_refl _) _)
  have HX := Lib.hid (Blk.new w 25 x.cs)
  have HSz := Lib.hid (siz_le x); have HIs := Lib.hid (idt_size x)
  have HS1 : Hid (∀ k, sizP x (k + 1) = sizP x k + (if wideP (setN (x.at_ k)) = true then 2 ^ k else 0)) := Lib.hid (fun k => rfl)
  have HI1 : Hid (∀ k, idtP x (k + 1) = idtP x k ++ cIdP (setN (x.at_ k))) := Lib.hid (fun k => rfl)
  have h0 : sizP x 0 = 64 := rfl
  have i0 : idtP x 0 = ⟨#[]⟩ := rfl
  generalize sizP x = sz at *
  generalize idtP x = it at *
  obtain ⟨a, b, c, d, l, r, s⟩ := x
  unfold Iso.val Iso.cs at *
  simp only at HX HB0 ⊢
  go_enter Tryz.func32, Tryz.ntmps32
  go_wp2_with fail
  generalize w.alloc (.cells #[.int .i64 a, .int .i64 b, .int .i64 c, .int .i64 d, .int .i64 l, .int .i64 r, .int .i64 s] 25) = wa at *
  go_loopw [4, 5, 6, 7] (fun z p t i wr => ∃ k : Nat, k ≤ 4 ∧ z = .int .i64 (sz k) ∧ p = .int .i64 ((2 ^ k : Nat) : Int) ∧ t = .string (it k) ∧ i = .int .i64 k ∧ wr = wa) (fun _ _ _ i _ => 4 - (intOf i).toNat)
  case atStart => exact ⟨0, by omega, by rw [h0]; rfl, rfl, by rw [i0], rfl, rfl⟩
  case round =>
    obtain ⟨k, hk, rfl, rfl, rfl, rfl, rfl⟩ := hrel
    by_cases hlt : k < 4
    · clear h0 i0
      have hks : k = 0 ∨ k = 1 ∨ k = 2 ∨ k = 3 := by omega
      obtain ⟨c0, c1, c2, c3, c4, c5, c6⟩ := seven HX.out
      rcases hks with rfl | rfl | rfl | rfl
      · have HIk := Lib.hid (fun W => HId.out a W); have HWk := Lib.hid (fun W => HW.out a W)
        have hs1 : sz 1 = sz 0 + (if wideP (setN a) = true then 2 ^ 0 else 0) := HS1.out 0
        have hi1 : it 1 = it 0 ++ cIdP (setN a) := HI1.out 0
        obtain ⟨hz1, hz2⟩ := HSz.out 0
        have his := HIs.out 0
        have hid := isoId_size (setN a) (setN_lt _)
        generalize cIdP (setN a) = id at *
        rcases hw : wideP (setN a) with _ | _
        · rw [hw] at HWk hs1
          rw [if_neg (by simp)] at hs1
          have hadd : ∀ W, (Op.stringOp .add (it 0) id).run Tryz.prog W = .ok (.string (it 0 ++ id)) W := fun W => run_string_add_sum W _ _ (by omega)
          have HS2 := Lib.hid hs1; have HI2 := Lib.hid hi1
          clear hs1 hi1 hz1 hz2 his hw HId HW HS1 HI1 HSz HIs hk hlt hid
          generalize sz 0 = z at *
          generalize it 0 = t at *
          go_wp2_with fail
          refine (HWk.out _).mono ?_
          rintro e w1 ⟨rfl, rfl⟩
          go_wp2_with fail
          refine (HIk.out _).mono ?_
          rintro e w1 ⟨rfl, rfl⟩
          go_wp2_with fail
          go_roundw
          case rel => exact ⟨1, by omega, by rw [HS2.out]; rfl, rfl, by rw [HI2.out], rfl, trivial⟩
          case measure => simp [intOf]
        · rw [hw] at HWk hs1
          rw [if_pos rfl] at hs1
          have hadd : ∀ W, (Op.stringOp .add (it 0) id).run Tryz.prog W = .ok (.string (it 0 ++ id)) W := fun W => run_string_add_sum W _ _ (by omega)
          have hwz : IntKind.i64.wrap ((sz 0 : Int) + 1) = ((sz 0 + 1 : Nat) : Int) := by rw [IntWalk.i64_in _ (by omega)]; omega
          have HS2 := Lib.hid hs1; have HI2 := Lib.hid hi1
          clear hs1 hi1 hz1 hz2 his hw HId HW HS1 HI1 HSz HIs hk hlt hid
          generalize sz 0 = z at *
          generalize it 0 = t at *
          go_wp2_with fail
          refine (HWk.out _).mono ?_
          rintro e w1 ⟨rfl, rfl⟩
          go_wp2_with fail
          refine (HIk.out _).mono ?_
          rintro e w1 ⟨rfl, rfl⟩
          go_wp2_with fail
          go_roundw
          case rel => exact ⟨1, by omega, by rw [HS2.out]; rfl, rfl, by rw [HI2.out], rfl, trivial⟩
          case measure => simp [intOf]
      · have HIk := Lib.hid (fun W => HId.out b W); have HWk := Lib.hid (fun W => HW.out b W)
        have hs1 : sz 2 = sz 1 + (if wideP (setN b) = true then 2 ^ 1 else 0) := HS1.out 1
        have hi1 : it 2 = it 1 ++ cIdP (setN b) := HI1.out 1
        obtain ⟨hz1, hz2⟩ := HSz.out 1
        have his := HIs.out 1
        have hid := isoId_size (setN b) (setN_lt _)
        generalize cIdP (setN b) = id at *
        rcases hw : wideP (setN b) with _ | _
        · rw [hw] at HWk hs1
          rw [if_neg (by simp)] at hs1
          have hadd : ∀ W, (Op.stringOp .add (it 1) id).run Tryz.prog W = .ok (.string (it 1 ++ id)) W := fun W => run_string_add_sum W _ _ (by omega)
          have HS2 := Lib.hid hs1; have HI2 := Lib.hid hi1
          clear hs1 hi1 hz1 hz2 his hw HId HW HS1 HI1 HSz HIs hk hlt hid
          generalize sz 1 = z at *
          generalize it 1 = t at *
          go_wp2_with fail
          refine (HWk.out _).mono ?_
          rintro e w1 ⟨rfl, rfl⟩
          go_wp2_with fail
          refine (HIk.out _).mono ?_
          rintro e w1 ⟨rfl, rfl⟩
          go_wp2_with fail
          go_roundw
          case rel => exact ⟨2, by omega, by rw [HS2.out]; rfl, rfl, by rw [HI2.out], rfl, trivial⟩
          case measure => simp [intOf]
        · rw [hw] at HWk hs1
          rw [if_pos rfl] at hs1
          have hadd : ∀ W, (Op.stringOp .add (it 1) id).run Tryz.prog W = .ok (.string (it 1 ++ id)) W := fun W => run_string_add_sum W _ _ (by omega)
          have hwz : IntKind.i64.wrap ((sz 1 : Int) + 2) = ((sz 1 + 2 : Nat) : Int) := by rw [IntWalk.i64_in _ (by omega)]; omega
          have HS2 := Lib.hid hs1; have HI2 := Lib.hid hi1
          clear hs1 hi1 hz1 hz2 his hw HId HW HS1 HI1 HSz HIs hk hlt hid
          generalize sz 1 = z at *
          generalize it 1 = t at *
          go_wp2_with fail
          refine (HWk.out _).mono ?_
          rintro e w1 ⟨rfl, rfl⟩
          go_wp2_with fail
          refine (HIk.out _).mono ?_
          rintro e w1 ⟨rfl, rfl⟩
          go_wp2_with fail
          go_roundw
          case rel => exact ⟨2, by omega, by rw [HS2.out]; rfl, rfl, by rw [HI2.out], rfl, trivial⟩
          case measure => simp [intOf]
      · have HIk := Lib.hid (fun W => HId.out c W); have HWk := Lib.hid (fun W => HW.out c W)
        have hs1 : sz 3 = sz 2 + (if wideP (setN c) = true then 2 ^ 2 else 0) := HS1.out 2
        have hi1 : it 3 = it 2 ++ cIdP (setN c) := HI1.out 2
        obtain ⟨hz1, hz2⟩ := HSz.out 2
        have his := HIs.out 2
        have hid := isoId_size (setN c) (setN_lt _)
        generalize cIdP (setN c) = id at *
        rcases hw : wideP (setN c) with _ | _
        · rw [hw] at HWk hs1
          rw [if_neg (by simp)] at hs1
          have hadd : ∀ W, (Op.stringOp .add (it 2) id).run Tryz.prog W = .ok (.string (it 2 ++ id)) W := fun W => run_string_add_sum W _ _ (by omega)
          have HS2 := Lib.hid hs1; have HI2 := Lib.hid hi1
          clear hs1 hi1 hz1 hz2 his hw HId HW HS1 HI1 HSz HIs hk hlt hid
          generalize sz 2 = z at *
          generalize it 2 = t at *
          go_wp2_with fail
          refine (HWk.out _).mono ?_
          rintro e w1 ⟨rfl, rfl⟩
          go_wp2_with fail
          refine (HIk.out _).mono ?_
          rintro e w1 ⟨rfl, rfl⟩
          go_wp2_with fail
          go_roundw
          case rel => exact ⟨3, by omega, by rw [HS2.out]; rfl, rfl, by rw [HI2.out], rfl, trivial⟩
          case measure => simp [intOf]
        · rw [hw] at HWk hs1
          rw [if_pos rfl] at hs1
          have hadd : ∀ W, (Op.stringOp .add (it 2) id).run Tryz.prog W = .ok (.string (it 2 ++ id)) W := fun W => run_string_add_sum W _ _ (by omega)
          have hwz : IntKind.i64.wrap ((sz 2 : Int) + 4) = ((sz 2 + 4 : Nat) : Int) := by rw [IntWalk.i64_in _ (by omega)]; omega
          have HS2 := Lib.hid hs1; have HI2 := Lib.hid hi1
          clear hs1 hi1 hz1 hz2 his hw HId HW HS1 HI1 HSz HIs hk hlt hid
          generalize sz 2 = z at *
          generalize it 2 = t at *
          go_wp2_with fail
          refine (HWk.out _).mono ?_
          rintro e w1 ⟨rfl, rfl⟩
          go_wp2_with fail
          refine (HIk.out _).mono ?_
          rintro e w1 ⟨rfl, rfl⟩
          go_wp2_with fail
          go_roundw
          case rel => exact ⟨3, by omega, by rw [HS2.out]; rfl, rfl, by rw [HI2.out], rfl, trivial⟩
          case measure => simp [intOf]
      · have HIk := Lib.hid (fun W => HId.out d W); have HWk := Lib.hid (fun W => HW.out d W)
        have hs1 : sz 4 = sz 3 + (if wideP (setN d) = true then 2 ^ 3 else 0) := HS1.out 3
        have hi1 : it 4 = it 3 ++ cIdP (setN d) := HI1.out 3
        obtain ⟨hz1, hz2⟩ := HSz.out 3
        have his := HIs.out 3
        have hid := isoId_size (setN d) (setN_lt _)
        generalize cIdP (setN d) = id at *
        rcases hw : wideP (setN d) with _ | _
        · rw [hw] at HWk hs1
          rw [if_neg (by simp)] at hs1
          have hadd : ∀ W, (Op.stringOp .add (it 3) id).run Tryz.prog W = .ok (.string (it 3 ++ id)) W := fun W => run_string_add_sum W _ _ (by omega)
          have HS2 := Lib.hid hs1; have HI2 := Lib.hid hi1
          clear hs1 hi1 hz1 hz2 his hw HId HW HS1 HI1 HSz HIs hk hlt hid
          generalize sz 3 = z at *
          generalize it 3 = t at *
          go_wp2_with fail
          refine (HWk.out _).mono ?_
          rintro e w1 ⟨rfl, rfl⟩
          go_wp2_with fail
          refine (HIk.out _).mono ?_
          rintro e w1 ⟨rfl, rfl⟩
          go_wp2_with fail
          go_roundw
          case rel => exact ⟨4, by omega, by rw [HS2.out]; rfl, rfl, by rw [HI2.out], rfl, trivial⟩
          case measure => simp [intOf]
        · rw [hw] at HWk hs1
          rw [if_pos rfl] at hs1
          have hadd : ∀ W, (Op.stringOp .add (it 3) id).run Tryz.prog W = .ok (.string (it 3 ++ id)) W := fun W => run_string_add_sum W _ _ (by omega)
          have hwz : IntKind.i64.wrap ((sz 3 : Int) + 8) = ((sz 3 + 8 : Nat) : Int) := by rw [IntWalk.i64_in _ (by omega)]; omega
          have HS2 := Lib.hid hs1; have HI2 := Lib.hid hi1
          clear hs1 hi1 hz1 hz2 his hw HId HW HS1 HI1 HSz HIs hk hlt hid
          generalize sz 3 = z at *
          generalize it 3 = t at *
          go_wp2_with fail
          refine (HWk.out _).mono ?_
          rintro e w1 ⟨rfl, rfl⟩
          go_wp2_with fail
          refine (HIk.out _).mono ?_
          rintro e w1 ⟨rfl, rfl⟩
          go_wp2_with fail
          go_roundw
          case rel => exact ⟨4, by omega, by rw [HS2.out]; rfl, rfl, by rw [HI2.out], rfl, trivial⟩
          case measure => simp [intOf]
    · obtain rfl : k = 4 := by omega
      obtain ⟨hz1, hz2⟩ := HSz.out 4
      have hu : IntKind.u8.wrap (sz 4 : Int) = sz 4 := by rw [IntKind.wrap_u8]; omega
      clear hk hlt hz1 hz2 HSz HIs HS1 HI1
      go_wp2_with fail
      exact bodyPost_ret (v := .tuple #[.int .u8 (sz 4 : Nat), .string (it 4)]) (by simp [results, Tryz.results32, go_sem]) rfl ⟨rfl, HB0.out⟩
end Go.Proofs.YtfnamfkjbkhgeaaGreatDoor

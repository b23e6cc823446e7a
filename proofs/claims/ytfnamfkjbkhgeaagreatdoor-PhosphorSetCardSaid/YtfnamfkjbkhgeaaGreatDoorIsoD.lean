/-
  States of sets: what is told of one.
-/
import Derived.Test.YtfnamfkjbkhgeaaGreatDoorIsoC
namespace Go.Proofs.YtfnamfkjbkhgeaaGreatDoor

open Go Go.RowKit

/-- Sizes and ids, of the first so many. -/
def sizP (x : Iso) : Nat → Nat
  | 0 => 64
  | k + 1 => sizP x k + (if wideP (setN (x.at_ k)) = true then 2 ^ k else 0)
def idtP (x : Iso) : Nat → ByteArray
  | 0 => ⟨#[]⟩
  | k + 1 => idtP x k ++ cIdP (setN (x.at_ k))
def rptV (x : Iso) : Value := .tuple #[.int .i64 (leftP x), .int .i64 (rightP x), .int .u8 (sizP x 4), .string (idtP x 4)]
theorem isoId_size : ∀ k, k < 18 → (cIdP k).size ≤ 2 := by decide +kernel
theorem idt_size (x : Iso) : ∀ k, (idtP x k).size ≤ 2 * k := by
  intro k
  induction k with
  | zero => exact Nat.le_refl _
  | succ k ih =>
    have := isoId_size (setN (x.at_ k)) (setN_lt _)
    show (idtP x k ++ cIdP (setN (x.at_ k))).size ≤ _
    rw [ByteArray.size_append]
    omega
theorem siz_le (x : Iso) : ∀ k, sizP x k ≤ 63 + 2 ^ k ∧ 64 ≤ sizP x k := by
  intro k
  induction k with
  | zero => exact ⟨Nat.le_refl 64, Nat.le_refl _⟩
  | succ k ih =>
    have e : sizP x (k + 1) = sizP x k + (if wideP (setN (x.at_ k)) = true then 2 ^ k else 0) := rfl
    rw [e, Nat.pow_succ]
    split <;> omega
theorem or_bit : ∀ k, k < 4 → ∀ n : Nat, n < 128 → 64 ≤ n → n ≤ 63 + 2 ^ k → bits .or .u8 (n : Int) ((2 ^ k : Nat) : Int) = ((n + 2 ^ k : Nat) : Int) := by decide +kernel
set_option maxRecDepth 100000 in
set_option maxHeartbeats 8000000 in
theorem report_any (x : Iso) (w : World) (ht : Faces w) :
    Calls Tryz.prog 25 #[x.val] w fun e w' => e = .returned (rptV x) ∧ Below w.heap.size w w' := by
  have HL := Lib.hid (fun W => left_any x W)
  have HR := Lib.hid (fun W => right_any x W)
  have HId : Hid (∀ (j : Int) W, Faces W → Calls Tryz.prog 69 #[.int .i64 (x.at_ j)] W fun e w' => e = .returned (.tuple #[.string (cIdP (setN (x.at_ j))), .bool (wideP (setN (x.at_ j)))]) ∧ Below W.heap.size W w') := Lib.hid (fun j W t => cId_any (x.at_ j) W t)
  have HT := Lib.hid ht
  clear ht
  unfold rptV
  have HB0 := Lib.hid (show Below w.heap.size w (w.alloc (.cells x.cs 38)) from (Below.refl _ _).alloc (Nat.le_refl _) _)
  have HX := Lib.hid (Blk.new w 38 x.cs)
  have HSz := Lib.hid (siz_le x); have HIs := Lib.hid (idt_size x)
  have HS1 : Hid (∀ k, sizP x (k + 1) = sizP x k + (if wideP (setN (x.at_ k)) = true then 2 ^ k else 0)) := Lib.hid (fun k => rfl)
  have HI1 : Hid (∀ k, idtP x (k + 1) = idtP x k ++ cIdP (setN (x.at_ k))) := Lib.hid (fun k => rfl)
  have h0 : sizP x 0 = 64 := rfl
  have i0 : idtP x 0 = ⟨#[]⟩ := rfl
  generalize leftP x = lp at *
  generalize rightP x = rp at *
  generalize sizP x = sz at *
  generalize idtP x = it at *
  obtain ⟨a, b, c, d, l, r, s⟩ := x
  unfold Iso.val Iso.cs at *
  simp only at HX HB0 HL HR ⊢
  go_enter Tryz.func25, Tryz.ntmps25
  go_wp2_with fail
  have HK0 := HB0
  go_loopw [6, 7, 14] (fun z t i wr => ∃ k : Nat, k ≤ 4 ∧ i = .int .i64 k ∧ z = .int .u8 (sz k) ∧ t = .string (it k) ∧ Faces wr ∧ Blk wr w.heap.size 38 #[.int .i64 a, .int .i64 b, .int .i64 c, .int .i64 d, .int .i64 l, .int .i64 r, .int .i64 s] ∧ Below w.heap.size w wr) (fun _ _ i _ => 4 - (intOf i).toNat)
  case atStart => exact ⟨0, by omega, rfl, by rw [h0]; rfl, by rw [i0], HT.out.next HB0.out, HX.out, HB0.out⟩
  case round =>
    obtain ⟨k, hk, rfl, rfl, rfl, hf, hx, hb⟩ := hrel
    have HF := Lib.hid hf; have HXr := Lib.hid hx; have HB := Lib.hid hb
    clear hf hx hb
    by_cases hlt : k < 4
    · clear h0 i0
      have hks : k = 0 ∨ k = 1 ∨ k = 2 ∨ k = 3 := by omega
      rcases hks with rfl | rfl | rfl | rfl
      · have HIk : Hid (∀ W, Faces W → Calls Tryz.prog 69 #[.int .i64 a] W fun e w' => e = .returned (.tuple #[.string (cIdP (setN a)), .bool (wideP (setN a))]) ∧ Below W.heap.size W w') := Lib.hid (fun W t => HId.out 0 W t)
        have hs1 : sz 1 = sz 0 + (if wideP (setN a) = true then 2 ^ 0 else 0) := HS1.out 0
        have hi1 : it 1 = it 0 ++ cIdP (setN a) := HI1.out 0
        obtain ⟨hz1, hz2⟩ := HSz.out 0
        have his := HIs.out 0
        have hid := isoId_size (setN a) (setN_lt _)
        generalize cIdP (setN a) = id at *
        rcases hw : wideP (setN a) with _ | _
        · rw [hw] at HIk hs1
          rw [if_neg (by simp)] at hs1
          have hadd : ∀ W, (Op.stringOp .add (it 0) id).run Tryz.prog W = .ok (.string (it 0 ++ id)) W := fun W => run_string_add_sum W _ _ (by omega)
          have HS2 := Lib.hid hs1; have HI2 := Lib.hid hi1
          clear hs1 hi1 hz1 hz2 his hw HId HS1 HI1 HSz HIs hk hlt hid
          generalize sz 0 = z at *
          generalize it 0 = t at *
          have hix : ∀ W, (Instr.index 23 (.agg #[.int .i64 a, .int .i64 b, .int .i64 c, .int .i64 d]) (.int .i64 0)).run Tryz.prog W = .ok (.int .i64 a) W := fun W => by kernel_rfl
          go_wp2_with fail
          refine (HIk.out _ HF.out).mono ?_
          rintro e w1 ⟨rfl, hb1⟩
          have HF1 := Lib.hid (HF.out.next hb1); have HX1 := Lib.hid (HXr.out.next hb1); have HB1 := Lib.hid (HB.out.trans (hb1.mono HB.out.size))
          clear hb1
          go_wp2_with fail
          go_roundw
          case rel => exact ⟨1, by omega, rfl, by rw [HS2.out]; rfl, by rw [HI2.out], HF1.out, HX1.out, HB1.out⟩
          case measure => simp [intOf]
        · rw [hw] at HIk hs1
          rw [if_pos rfl] at hs1
          have hor : bits .or .u8 (sz 0 : Int) 1 = ((sz 0 + 1 : Nat) : Int) := or_bit 0 (by omega) (sz 0) (by omega) hz2 hz1
          have hadd : ∀ W, (Op.stringOp .add (it 0) id).run Tryz.prog W = .ok (.string (it 0 ++ id)) W := fun W => run_string_add_sum W _ _ (by omega)
          have HS2 := Lib.hid hs1; have HI2 := Lib.hid hi1
          clear hs1 hi1 hz1 hz2 his hw HId HS1 HI1 HSz HIs hk hlt hid
          generalize sz 0 = z at *
          generalize it 0 = t at *
          have hix : ∀ W, (Instr.index 23 (.agg #[.int .i64 a, .int .i64 b, .int .i64 c, .int .i64 d]) (.int .i64 0)).run Tryz.prog W = .ok (.int .i64 a) W := fun W => by kernel_rfl
          go_wp2_with fail
          refine (HIk.out _ HF.out).mono ?_
          rintro e w1 ⟨rfl, hb1⟩
          have HF1 := Lib.hid (HF.out.next hb1); have HX1 := Lib.hid (HXr.out.next hb1); have HB1 := Lib.hid (HB.out.trans (hb1.mono HB.out.size))
          clear hb1
          go_wp2_with fail
          go_roundw
          case rel => exact ⟨1, by omega, rfl, by rw [HS2.out]; rfl, by rw [HI2.out], HF1.out, HX1.out, HB1.out⟩
          case measure => simp [intOf]
      · have HIk : Hid (∀ W, Faces W → Calls Tryz.prog 69 #[.int .i64 b] W fun e w' => e = .returned (.tuple #[.string (cIdP (setN b)), .bool (wideP (setN b))]) ∧ Below W.heap.size W w') := Lib.hid (fun W t => HId.out 1 W t)
        have hs1 : sz 2 = sz 1 + (if wideP (setN b) = true then 2 ^ 1 else 0) := HS1.out 1
        have hi1 : it 2 = it 1 ++ cIdP (setN b) := HI1.out 1
        obtain ⟨hz1, hz2⟩ := HSz.out 1
        have his := HIs.out 1
        have hid := isoId_size (setN b) (setN_lt _)
        generalize cIdP (setN b) = id at *
        rcases hw : wideP (setN b) with _ | _
        · rw [hw] at HIk hs1
          rw [if_neg (by simp)] at hs1
          have hadd : ∀ W, (Op.stringOp .add (it 1) id).run Tryz.prog W = .ok (.string (it 1 ++ id)) W := fun W => run_string_add_sum W _ _ (by omega)
          have HS2 := Lib.hid hs1; have HI2 := Lib.hid hi1
          clear hs1 hi1 hz1 hz2 his hw HId HS1 HI1 HSz HIs hk hlt hid
          generalize sz 1 = z at *
          generalize it 1 = t at *
          have hix : ∀ W, (Instr.index 23 (.agg #[.int .i64 a, .int .i64 b, .int .i64 c, .int .i64 d]) (.int .i64 1)).run Tryz.prog W = .ok (.int .i64 b) W := fun W => by kernel_rfl
          go_wp2_with fail
          refine (HIk.out _ HF.out).mono ?_
          rintro e w1 ⟨rfl, hb1⟩
          have HF1 := Lib.hid (HF.out.next hb1); have HX1 := Lib.hid (HXr.out.next hb1); have HB1 := Lib.hid (HB.out.trans (hb1.mono HB.out.size))
          clear hb1
          go_wp2_with fail
          go_roundw
          case rel => exact ⟨2, by omega, rfl, by rw [HS2.out]; rfl, by rw [HI2.out], HF1.out, HX1.out, HB1.out⟩
          case measure => simp [intOf]
        · rw [hw] at HIk hs1
          rw [if_pos rfl] at hs1
          have hor : bits .or .u8 (sz 1 : Int) 2 = ((sz 1 + 2 : Nat) : Int) := or_bit 1 (by omega) (sz 1) (by omega) hz2 hz1
          have hadd : ∀ W, (Op.stringOp .add (it 1) id).run Tryz.prog W = .ok (.string (it 1 ++ id)) W := fun W => run_string_add_sum W _ _ (by omega)
          have HS2 := Lib.hid hs1; have HI2 := Lib.hid hi1
          clear hs1 hi1 hz1 hz2 his hw HId HS1 HI1 HSz HIs hk hlt hid
          generalize sz 1 = z at *
          generalize it 1 = t at *
          have hix : ∀ W, (Instr.index 23 (.agg #[.int .i64 a, .int .i64 b, .int .i64 c, .int .i64 d]) (.int .i64 1)).run Tryz.prog W = .ok (.int .i64 b) W := fun W => by kernel_rfl
          go_wp2_with fail
          refine (HIk.out _ HF.out).mono ?_
          rintro e w1 ⟨rfl, hb1⟩
          have HF1 := Lib.hid (HF.out.next hb1); have HX1 := Lib.hid (HXr.out.next hb1); have HB1 := Lib.hid (HB.out.trans (hb1.mono HB.out.size))
          clear hb1
          go_wp2_with fail
          go_roundw
          case rel => exact ⟨2, by omega, rfl, by rw [HS2.out]; rfl, by rw [HI2.out], HF1.out, HX1.out, HB1.out⟩
          case measure => simp [intOf]
      · have HIk : Hid (∀ W, Faces W → Calls Tryz.prog 69 #[.int .i64 c] W fun e w' => e = .returned (.tuple #[.string (cIdP (setN c)), .bool (wideP (setN c))]) ∧ Below W.heap.size W w') := Lib.hid (fun W t => HId.out 2 W t)
        have hs1 : sz 3 = sz 2 + (if wideP (setN c) = true then 2 ^ 2 else 0) := HS1.out 2
        have hi1 : it 3 = it 2 ++ cIdP (setN c) := HI1.out 2
        obtain ⟨hz1, hz2⟩ := HSz.out 2
        have his := HIs.out 2
        have hid := isoId_size (setN c) (setN_lt _)
        generalize cIdP (setN c) = id at *
        rcases hw : wideP (setN c) with _ | _
        · rw [hw] at HIk hs1
          rw [if_neg (by simp)] at hs1
          have hadd : ∀ W, (Op.stringOp .add (it 2) id).run Tryz.prog W = .ok (.string (it 2 ++ id)) W := fun W => run_string_add_sum W _ _ (by omega)
          have HS2 := Lib.hid hs1; have HI2 := Lib.hid hi1
          clear hs1 hi1 hz1 hz2 his hw HId HS1 HI1 HSz HIs hk hlt hid
          generalize sz 2 = z at *
          generalize it 2 = t at *
          have hix : ∀ W, (Instr.index 23 (.agg #[.int .i64 a, .int .i64 b, .int .i64 c, .int .i64 d]) (.int .i64 2)).run Tryz.prog W = .ok (.int .i64 c) W := fun W => by kernel_rfl
          go_wp2_with fail
          refine (HIk.out _ HF.out).mono ?_
          rintro e w1 ⟨rfl, hb1⟩
          have HF1 := Lib.hid (HF.out.next hb1); have HX1 := Lib.hid (HXr.out.next hb1); have HB1 := Lib.hid (HB.out.trans (hb1.mono HB.out.size))
          clear hb1
          go_wp2_with fail
          go_roundw
          case rel => exact ⟨3, by omega, rfl, by rw [HS2.out]; rfl, by rw [HI2.out], HF1.out, HX1.out, HB1.out⟩
          case measure => simp [intOf]
        · rw [hw] at HIk hs1
          rw [if_pos rfl] at hs1
          have hor : bits .or .u8 (sz 2 : Int) 4 = ((sz 2 + 4 : Nat) : Int) := or_bit 2 (by omega) (sz 2) (by omega) hz2 hz1
          have hadd : ∀ W, (Op.stringOp .add (it 2) id).run Tryz.prog W = .ok (.string (it 2 ++ id)) W := fun W => run_string_add_sum W _ _ (by omega)
          have HS2 := Lib.hid hs1; have HI2 := Lib.hid hi1
          clear hs1 hi1 hz1 hz2 his hw HId HS1 HI1 HSz HIs hk hlt hid
          generalize sz 2 = z at *
          generalize it 2 = t at *
          have hix : ∀ W, (Instr.index 23 (.agg #[.int .i64 a, .int .i64 b, .int .i64 c, .int .i64 d]) (.int .i64 2)).run Tryz.prog W = .ok (.int .i64 c) W := fun W => by kernel_rfl
          go_wp2_with fail
          refine (HIk.out _ HF.out).mono ?_
          rintro e w1 ⟨rfl, hb1⟩
          have HF1 := Lib.hid (HF.out.next hb1); have HX1 := Lib.hid (HXr.out.next hb1); have HB1 := Lib.hid (HB.out.trans (hb1.mono HB.out.size))
          clear hb1
          go_wp2_with fail
          go_roundw
          case rel => exact ⟨3, by omega, rfl, by rw [HS2.out]; rfl, by rw [HI2.out], HF1.out, HX1.out, HB1.out⟩
          case measure => simp [intOf]
      · have HIk : Hid (∀ W, Faces W → Calls Tryz.prog 69 #[.int .i64 d] W fun e w' => e = .returned (.tuple #[.string (cIdP (setN d)), .bool (wideP (setN d))]) ∧ Below W.heap.size W w') := Lib.hid (fun W t => HId.out 3 W t)
        have hs1 : sz 4 = sz 3 + (if wideP (setN d) = true then 2 ^ 3 else 0) := HS1.out 3
        have hi1 : it 4 = it 3 ++ cIdP (setN d) := HI1.out 3
        obtain ⟨hz1, hz2⟩ := HSz.out 3
        have his := HIs.out 3
        have hid := isoId_size (setN d) (setN_lt _)
        generalize cIdP (setN d) = id at *
        rcases hw : wideP (setN d) with _ | _
        · rw [hw] at HIk hs1
          rw [if_neg (by simp)] at hs1
          have hadd : ∀ W, (Op.stringOp .add (it 3) id).run Tryz.prog W = .ok (.string (it 3 ++ id)) W := fun W => run_string_add_sum W _ _ (by omega)
          have HS2 := Lib.hid hs1; have HI2 := Lib.hid hi1
          clear hs1 hi1 hz1 hz2 his hw HId HS1 HI1 HSz HIs hk hlt hid
          generalize sz 3 = z at *
          generalize it 3 = t at *
          have hix : ∀ W, (Instr.index 23 (.agg #[.int .i64 a, .int .i64 b, .int .i64 c, .int .i64 d]) (.int .i64 3)).run Tryz.prog W = .ok (.int .i64 d) W := fun W => by kernel_rfl
          go_wp2_with fail
          refine (HIk.out _ HF.out).mono ?_
          rintro e w1 ⟨rfl, hb1⟩
          have HF1 := Lib.hid (HF.out.next hb1); have HX1 := Lib.hid (HXr.out.next hb1); have HB1 := Lib.hid (HB.out.trans (hb1.mono HB.out.size))
          clear hb1
          go_wp2_with fail
          go_roundw
          case rel => exact ⟨4, by omega, rfl, by rw [HS2.out]; rfl, by rw [HI2.out], HF1.out, HX1.out, HB1.out⟩
          case measure => simp [intOf]
        · rw [hw] at HIk hs1
          rw [if_pos rfl] at hs1
          have hor : bits .or .u8 (sz 3 : Int) 8 = ((sz 3 + 8 : Nat) : Int) := or_bit 3 (by omega) (sz 3) (by omega) hz2 hz1
          have hadd : ∀ W, (Op.stringOp .add (it 3) id).run Tryz.prog W = .ok (.string (it 3 ++ id)) W := fun W => run_string_add_sum W _ _ (by omega)
          have HS2 := Lib.hid hs1; have HI2 := Lib.hid hi1
          clear hs1 hi1 hz1 hz2 his hw HId HS1 HI1 HSz HIs hk hlt hid
          generalize sz 3 = z at *
          generalize it 3 = t at *
          have hix : ∀ W, (Instr.index 23 (.agg #[.int .i64 a, .int .i64 b, .int .i64 c, .int .i64 d]) (.int .i64 3)).run Tryz.prog W = .ok (.int .i64 d) W := fun W => by kernel_rfl
          go_wp2_with fail
          refine (HIk.out _ HF.out).mono ?_
          rintro e w1 ⟨rfl, hb1⟩
          have HF1 := Lib.hid (HF.out.next hb1); have HX1 := Lib.hid (HXr.out.next hb1); have HB1 := Lib.hid (HB.out.trans (hb1.mono HB.out.size))
          clear hb1
          go_wp2_with fail
          go_roundw
          case rel => exact ⟨4, by omega, rfl, by rw [HS2.out]; rfl, by rw [HI2.out], HF1.out, HX1.out, HB1.out⟩
          case measure => simp [intOf]
    · obtain rfl : k = 4 := by omega
      obtain ⟨c0, c1, c2, c3, c4, c5, c6⟩ := seven HXr.out
      clear HId HS1 HI1 HSz HIs h0 i0
      clear c0 c1 c2 c3 c4 c5 c6
      have HCe := Lib.hid (fun w' (h : Only [] wr w') => seven (HXr.out.next h.below0))
      go_wp2_with fail
      refine wp_region_mix_lit (by kernel_rfl) [(1, .call (.int .i64 lp)), (3, .call (.int .i64 rp))] (by kernel_rfl) (by kernel_rfl) (by kernel_rfl) (by rfl) (by simp [apartK] <;> omega) (by simp [startK]) (by simp [stabK]) (⟨fun _ => undef, by simp [okK]⟩) (fun β hβ => ?_)
      repeat (
        refine lex_val (v := ?_) rfl rfl (fun w' hf => ?_) ?_
        rotate_left
        · obtain ⟨c0, c1, c2, c3, c4, c5, c6⟩ := HCe.out w' hf.only; go_simp
          try rfl
        try simp only [Act.put, List.setIfInBounds_toArray, List.set_cons_zero, List.set_cons_succ])
      refine lex_call (f := 70) (args := ?_) rfl rfl (fun w' hf => ?_) (fun w' hf => ?_) ?_
      rotate_left
      · obtain ⟨c0, c1, c2, c3, c4, c5, c6⟩ := HCe.out w' hf.only; go_simp
        try rfl
      · obtain ⟨c0, c1, c2, c3, c4, c5, c6⟩ := HCe.out w' hf.only; exact HL.out w'
      try simp only [Act.put, List.setIfInBounds_toArray, List.set_cons_zero, List.set_cons_succ]
      repeat (
        refine lex_val (v := ?_) rfl rfl (fun w' hf => ?_) ?_
        rotate_left
        · obtain ⟨c0, c1, c2, c3, c4, c5, c6⟩ := HCe.out w' hf.only; go_simp
          try rfl
        try simp only [Act.put, List.setIfInBounds_toArray, List.set_cons_zero, List.set_cons_succ])
      refine lex_call (f := 71) (args := ?_) rfl rfl (fun w' hf => ?_) (fun w' hf => ?_) ?_
      rotate_left
      · obtain ⟨c0, c1, c2, c3, c4, c5, c6⟩ := HCe.out w' hf.only; go_simp
        try rfl
      · obtain ⟨c0, c1, c2, c3, c4, c5, c6⟩ := HCe.out w' hf.only; exact HR.out w'
      try simp only [Act.put, List.setIfInBounds_toArray, List.set_cons_zero, List.set_cons_succ]
      repeat (
        refine lex_val (v := ?_) rfl rfl (fun w' hf => ?_) ?_
        rotate_left
        · obtain ⟨c0, c1, c2, c3, c4, c5, c6⟩ := HCe.out w' hf.only; go_simp
          try rfl
        try simp only [Act.put, List.setIfInBounds_toArray, List.set_cons_zero, List.set_cons_succ])
      refine lex_nil fun w' he => ?_
      have HB1 := Lib.hid (HB.out.trans (he.only.below0.mono HB.out.size))
      clear he
      go_wp2_with fail
      exact bodyPost_ret (v := .tuple #[.int .i64 lp, .int .i64 rp, .int .u8 (sz 4 : Nat), .string (it 4)]) (by simp [results, Tryz.results25, go_sem]) rfl ⟨rfl, HB1.out⟩
end Go.Proofs.YtfnamfkjbkhgeaaGreatDoor

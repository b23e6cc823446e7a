/-
  The walk of the reference's turning over of a rendition, number by number.
-/
import Derived.Test.YtflnjlcdpmmjlaaDoorRendE
namespace Go.Proofs.YtflnjlcdpmmjlaaDoor

open Go.RowKit

theorem xor15_parts {y : Int} (h0 : 0 ≤ y) (h1 : y < 32) : fb (bits .xor .u8 y 15) 0 = !fb y 0 ∧ fb (bits .xor .u8 y 15) 1 = !fb y 1 ∧ fb (bits .xor .u8 y 15) 2 = !fb y 2 ∧ fb (bits .xor .u8 y 15) 3 = !fb y 3 ∧ fb (bits .xor .u8 y 15) 4 = fb y 4 := by
  have h := all_below (n := 32) (p := fun y => fb (bits .xor .u8 y 15) 0 == !fb y 0 && fb (bits .xor .u8 y 15) 1 == !fb y 1 && fb (bits .xor .u8 y 15) 2 == !fb y 2 && fb (bits .xor .u8 y 15) 3 == !fb y 3 && fb (bits .xor .u8 y 15) 4 == fb y 4) (by decide +kernel) h0 (by omega)
  simp only [Bool.and_eq_true, beq_iff_eq] at h
  exact ⟨h.1.1.1.1, h.1.1.1.2, h.1.1.2, h.1.2, h.2⟩
theorem turn_all {w : World} {g : Nat} {t : TypeId} {y : Int} (h : Blk w g t (cellsF y)) (h0 : 0 ≤ y) (h1 : y < 32) :
    Blk ((((w.setCell ⟨g, 0, none⟩ (.bool (!fb y 0))).setCell ⟨g, 1, none⟩ (.bool (!fb y 1))).setCell ⟨g, 2, none⟩ (.bool (!fb y 2))).setCell ⟨g, 3, none⟩ (.bool (!fb y 3))) g t (cellsF (fl1 y 0)) := by
  have e : cellsF (fl1 y 0) = #[.bool (!fb y 0), .bool (!fb y 1), .bool (!fb y 2), .bool (!fb y 3), .bool (fb y 4)] := by
    obtain ⟨a, b, c, d, f⟩ := xor15_parts h0 h1
    show cellsF (bits .xor .u8 y 15) = _
    unfold cellsF
    rw [a, b, c, d, f]
  rw [e]
  exact (((h.set_ 0 _).set_ 1 _).set_ 2 _).set_ 3 _
theorem turn_one {w : World} {g : Nat} {t : TypeId} {y : Int} (h : Blk w g t (cellsF y)) (h0 : 0 ≤ y) (h1 : y < 32) (k : Nat) (hk : k < 5) : Blk (w.setCell ⟨g, k, none⟩ (.bool (!fb y k))) g t (cellsF (fl1 y (pOn k))) := by
  unfold fl1
  rw [trn_on k hk, ← cellsF_xor h0 h1 k hk]; exact h.set_ k _
theorem fl1_none {y n : Int} (h0 : 0 ≤ y) (h1 : y < 32) (hn : n ≠ 0) (h : ∀ j, j < 5 → n ≠ pOn j) : fl1 y n = y := by
  unfold fl1
  rw [trn_none hn h]
  have h := all_below (n := 32) (p := fun y => bits .xor .u8 y 0 == y) (by decide +kernel) h0 (by omega)
  simpa using h
/-- The list that is gone through. -/
def turns (ns : List Int) : List Int := if ns = [] then [0] else ns
theorem flip_turns (x : Int) (ns : List Int) : flip x ns = (turns ns).foldl fl1 (x % 32) := by
  by_cases h : ns = []
  · subst h; rfl
  · simp [flip, turns, h]
theorem on_cases (n : Int) : n = 0 ∨ (∃ k, k < 5 ∧ n = pOn k) ∨ (n ≠ 0 ∧ ∀ j, j < 5 → n ≠ pOn j) := by
  by_cases h0 : n = 0
  · exact .inl h0
  by_cases h1 : ∃ k, k < 5 ∧ n = pOn k
  · exact .inr (.inl h1)
  · exact .inr (.inr ⟨h0, fun j hj e => h1 ⟨j, hj, e⟩⟩)

set_option maxRecDepth 100000 in
set_option maxHeartbeats 1600000 in
theorem refFlip_any (x : Int) (h0 : 0 ≤ x) (h1 : x ≤ 255) (A : Option Addr) (c : Nat) (ns : List Int) (hm : ns.length ≤ maxLen) (w : World) (hr : RInts w A ns) :
    Calls Tryd.prog 43 #[.int .u8 x, .slice A ns.length c] w fun e w' => e = .returned (.int .u8 (flip x ns)) ∧ Below w.heap.size w w' := by
  unfold maxLen at hm
  have HO := Lib.hid (of_any x h0 h1)
  unfold parts at HO
  have HC := Lib.hid (cells_mod h0 h1)
  generalize fb x 0 = a at *; generalize fb x 1 = b at *; generalize fb x 2 = d at *; generalize fb x 3 = f at *; generalize fb x 4 = g at *
  have HT := Lib.hid (flip_turns x ns)
  go_enter Tryd.func43, Tryd.ntmps43
  go_upto_if 14 with (go_at_call 46; refine (HO.out _).mono ?_; rintro e w1 ⟨rfl, hb1⟩)
  go_cut [6] (fun s wx => ∃ (A' : Option Addr) (c' : Nat), s = .slice A' (turns ns).length c' ∧ RInts wx A' (turns ns) ∧ (∀ ad, A' = some ad → ad.block ≠ w1.heap.size) ∧ Blk wx w1.heap.size 68 (cellsF (x % 32)) ∧ Below w1.heap.size w1 wx)
  case first =>
    by_cases hn : ns = []
    · subst hn
      go_wp2
      go_meet
      refine ⟨_, _, rfl, ?_, fun ad e => by (injection e with e; subst e; simp), by rw [HC.out]; exact (Blk.new _ _ _).alloc _, ((Below.refl _ _).alloc (Nat.le_refl _) _).alloc (by simp) _⟩
      exact rints_new _ _ [0] _ rfl _ (by simp)
    · have hl : 0 < ns.length := List.length_pos_iff.2 hn
      have hl0 : ((ns.length : Int) == 0) = false := by simp; omega
      have ht : turns ns = ns := by simp [turns, hn]
      have Ht := Lib.hid ht
      clear ht
      have hne : ∀ ad, A = some ad → ad.block ≠ w1.heap.size := by
        intro ad e
        obtain ⟨ad', e', hlt, _⟩ := hr.2 hl
        rw [e] at e'; injection e' with e'; subst e'
        have := hb1.size; omega
      have HNe := Lib.hid hne
      clear hne
      go_wp2
      go_meet
      exact ⟨A, c, by rw [Ht.out], by rw [Ht.out]; exact hr.next (hb1.alloc hb1.size _), HNe.out, by rw [HC.out]; exact Blk.new _ _ _, (Below.refl _ _).alloc (Nat.le_refl _) _⟩
  case rest =>
    obtain ⟨A', c', rfl, hr', hne, hB0, hb0⟩ := hcut
    have HNe := Lib.hid hne
    clear hne
    have hm2 : (turns ns).length ≤ 2 ^ 63 - 1 := by unfold turns; split <;> simp; omega
    clear hr
    generalize turns ns = ms at *
    have HB0 := Lib.hid hB0
    clear hB0
    go_wp2_with fail
    go_loopw [7] (fun i wr => ∃ k : Nat, k ≤ ms.length ∧ i = .int .i64 k ∧ Blk wr w1.heap.size 68 (cellsF ((ms.take k).foldl fl1 (x % 32))) ∧ RInts wr A' ms ∧ Below w1.heap.size w1 wr) (fun i _ => ms.length - (intOf i).toNat)
    case atStart => exact ⟨0, by omega, rfl, by rw [List.take_zero, List.foldl_nil]; exact HB0.out, hr', hb0⟩
    case round =>
      obtain ⟨k, hk, rfl, hB, hri, hb⟩ := hrel
      have hx : 0 ≤ x % 32 ∧ x % 32 < 32 := by omega
      have hy := flold_range (ms.take k) hx.1 hx.2
      clear hr' HB0 hb0
      by_cases hlt : k < ms.length
      · obtain ⟨ad, rfl, hbd, hc⟩ := hri.at_ hlt
        have HF := Lib.hid (foldl_snoc fl1 (x % 32) ms k hlt)
        generalize (ms.take k).foldl fl1 (x % 32) = y at *
        generalize ms[k] = n at *
        have f0 := hB.frozen 0; have f1 := hB.frozen 1; have f2 := hB.frozen 2; have f3 := hB.frozen 3; have f4 := hB.frozen 4
        obtain ⟨c0, c1, c2, c3, c4⟩ := cellsF_cell hB
        have HB := Lib.hid hB
        have Hy := Lib.hid hy
        have HRi := Lib.hid hri
        clear hB hy hx hri
        rcases on_cases n with rfl | ⟨j, hj, rfl⟩ | ⟨hn0, hno⟩
        · go_wp2
          go_roundw
          case rel =>
            exact ⟨k + 1, by omega, by go_num, by rw [HF.out]; exact turn_all HB.out Hy.out.1 Hy.out.2, (((HRi.out.store _ HNe.out _).store _ HNe.out _).store _ HNe.out _).store _ HNe.out _, by
              refine (((hb.setCell ?_ _).setCell ?_ _).setCell ?_ _).setCell ?_ _ <;> exact Nat.le_refl _⟩
          case measure => simp [intOf]; omega
        · match j, hj with
          | 0, hj =>
            rw [show pOn 0 = (1 : Int) from rfl] at hc
            go_wp2
            go_roundw
            case rel => exact ⟨k + 1, by omega, by go_num, by rw [HF.out]; exact turn_one HB.out Hy.out.1 Hy.out.2 0 hj, HRi.out.store _ HNe.out _, hb.setCell (Nat.le_refl _) _⟩
            case measure => simp [intOf]; omega
          | 1, hj =>
            rw [show pOn 1 = (4 : Int) from rfl] at hc
            go_wp2
            go_roundw
            case rel => exact ⟨k + 1, by omega, by go_num, by rw [HF.out]; exact turn_one HB.out Hy.out.1 Hy.out.2 1 hj, HRi.out.store _ HNe.out _, hb.setCell (Nat.le_refl _) _⟩
            case measure => simp [intOf]; omega
          | 2, hj =>
            rw [show pOn 2 = (5 : Int) from rfl] at hc
            go_wp2
            go_roundw
            case rel => exact ⟨k + 1, by omega, by go_num, by rw [HF.out]; exact turn_one HB.out Hy.out.1 Hy.out.2 2 hj, HRi.out.store _ HNe.out _, hb.setCell (Nat.le_refl _) _⟩
            case measure => simp [intOf]; omega
          | 3, hj =>
            rw [show pOn 3 = (7 : Int) from rfl] at hc
            go_wp2
            go_roundw
            case rel => exact ⟨k + 1, by omega, by go_num, by rw [HF.out]; exact turn_one HB.out Hy.out.1 Hy.out.2 3 hj, HRi.out.store _ HNe.out _, hb.setCell (Nat.le_refl _) _⟩
            case measure => simp [intOf]; omega
          | 4, hj =>
            rw [show pOn 4 = (8 : Int) from rfl] at hc
            go_wp2
            go_roundw
            case rel => exact ⟨k + 1, by omega, by go_num, by rw [HF.out]; exact turn_one HB.out Hy.out.1 Hy.out.2 4 hj, HRi.out.store _ HNe.out _, hb.setCell (Nat.le_refl _) _⟩
            case measure => simp [intOf]; omega
        · have HN := Lib.hid (fl1_none Hy.out.1 Hy.out.2 hn0 hno)
          have u0 : (n == 0) = false := beq_eq_false_iff_ne.2 hn0
          have u1 : (n == 1) = false := beq_eq_false_iff_ne.2 (hno 0 (by omega))
          have u2 : (n == 4) = false := beq_eq_false_iff_ne.2 (hno 1 (by omega))
          have u3 : (n == 5) = false := beq_eq_false_iff_ne.2 (hno 2 (by omega))
          have u4 : (n == 7) = false := beq_eq_false_iff_ne.2 (hno 3 (by omega))
          have u5' : (n == 8) = false := beq_eq_false_iff_ne.2 (hno 4 (by omega))
          clear hno hn0
          go_wp2
          go_roundw
          case rel => exact ⟨k + 1, by omega, by go_num, by rw [HF.out, HN.out]; exact HB.out, HRi.out, hb⟩
          case measure => simp [intOf]; omega
      · obtain rfl : k = ms.length := by omega
        rw [List.take_length, ← HT.out] at hB hy
        obtain ⟨c0, c1, c2, c3, c4⟩ := cellsF_cell hB
        have HR := Lib.hid (rd_fb hy.1 (by omega : flip x ns ≤ 255))
        have hmod : flip x ns % 32 = flip x ns := by omega
        rw [hmod] at HR
        clear hmod
        generalize hra : flip x ns = r at *
        have Hra := Lib.hid hra
        clear hra
        generalize fb r 0 = b0 at *; generalize fb r 1 = b1 at *; generalize fb r 2 = b2 at *; generalize fb r 3 = b3 at *; generalize fb r 4 = b4 at *
        clear hy
        go_wp2_with (go_at_call 47; refine (rend_any _ _ _ _ _ _).mono ?_; rintro e w2 ⟨rfl, hb2⟩)
        go_ret
        exact ⟨ret_int (HR.out.trans Hra.out.symm), (hb1.trans (hb.mono hb1.size)).trans (hb2.mono (Nat.le_trans hb1.size hb.size))⟩
end Go.Proofs.YtflnjlcdpmmjlaaDoor

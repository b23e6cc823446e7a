/-
  The walk of the reference's change of a rendition, number by number.
-/
import Derived.Test.YtflnjlcdpmmjlaaDoorRendC
import Derived.WalkSmall
namespace Go.Proofs.YtflnjlcdpmmjlaaDoor

open Go.RowKit

theorem cells_mod {x : Int} (h0 : 0 ≤ x) (h1 : x ≤ 255) : cellsF (x % 32) = #[.bool (fb x 0), .bool (fb x 1), .bool (fb x 2), .bool (fb x 3), .bool (fb x 4)] := by
  unfold cellsF
  rw [fb_mod h0 h1 0 (by omega), fb_mod h0 h1 1 (by omega), fb_mod h0 h1 2 (by omega), fb_mod h0 h1 3 (by omega), fb_mod h0 h1 4 (by omega)]

theorem step_on {w : World} {g : Nat} {t : TypeId} {y : Int} (h : Blk w g t (cellsF y)) (h0 : 0 ≤ y) (h1 : y < 32) (k : Nat) (hk : k < 5) : Blk (w.setCell ⟨g, k, none⟩ (.bool true)) g t (cellsF (ap1 y (pOn k))) := by
  rw [ap1_on y k hk, ← cellsF_or h0 h1 k hk]; exact h.set_ k _
theorem step_off {w : World} {g : Nat} {t : TypeId} {y : Int} (h : Blk w g t (cellsF y)) (h0 : 0 ≤ y) (h1 : y < 32) (k : Nat) (hk : k < 5) : Blk (w.setCell ⟨g, k, none⟩ (.bool false)) g t (cellsF (ap1 y (pOff k))) := by
  rw [ap1_off y k hk, ← cellsF_andNot h0 h1 k hk]; exact h.set_ k _
set_option maxRecDepth 100000 in
set_option maxHeartbeats 1600000 in
theorem refApply_any (x : Int) (h0 : 0 ≤ x) (h1 : x ≤ 255) (A : Option Addr) (c : Nat) (ns : List Int) (hm : ns.length ≤ maxLen) (w : World) (hr : RInts w A ns) :
    Calls Tryd.prog 42 #[.int .u8 x, .slice A ns.length c] w fun e w' => e = .returned (.int .u8 (apply x ns)) ∧ Below w.heap.size w w' := by
  unfold maxLen at hm
  have HO := Lib.hid (of_any x h0 h1)
  unfold parts at HO
  have HC := Lib.hid (cells_mod h0 h1)
  generalize fb x 0 = a at *; generalize fb x 1 = b at *; generalize fb x 2 = d at *; generalize fb x 3 = f at *; generalize fb x 4 = g at *
  by_cases hn : ns = []
  · subst hn
    go_enter Tryd.func42, Tryd.ntmps42
    go_wp2_with (go_at_call 46; refine (HO.out _).mono ?_; rintro e w1 ⟨rfl, hb1⟩)
    go_ret
    exact ⟨rfl, hb1.alloc hb1.size _⟩
  · have hl : 0 < ns.length := List.length_pos_iff.2 hn
    have hl0 : ((ns.length : Int) == 0) = false := by simp; omega
    have hap : ns.foldl ap1 (x % 32) = apply x ns := by simp [apply, hn]
    have HAp := Lib.hid hap
    clear hap
    go_enter Tryd.func42, Tryd.ntmps42
    go_wp2_with (go_at_call 46; refine (HO.out _).mono ?_; rintro e w1 ⟨rfl, hb1⟩)
    go_loopw [6] (fun i wr => ∃ k : Nat, k ≤ ns.length ∧ i = .int .i64 k ∧ Blk wr w1.heap.size 68 (cellsF ((ns.take k).foldl ap1 (x % 32))) ∧ Below w1.heap.size w1 wr) (fun i _ => ns.length - (intOf i).toNat)
    case atStart => exact ⟨0, by omega, rfl, by rw [List.take_zero, List.foldl_nil, HC.out]; exact Blk.new _ _ _, (Below.refl _ _).alloc (Nat.le_refl _) _⟩
    case round =>
      obtain ⟨k, hk, rfl, hB, hb⟩ := hrel
      have hx : 0 ≤ x % 32 ∧ x % 32 < 32 := by omega
      have hy := fold_range (ns.take k) hx.1 hx.2
      by_cases hlt : k < ns.length
      · obtain ⟨ad, rfl, hbd, hc⟩ := (hr.next (hb1.trans (hb.mono hb1.size))).at_ hlt
        have HF := Lib.hid (foldl_snoc ap1 (x % 32) ns k hlt)
        generalize (ns.take k).foldl ap1 (x % 32) = y at *
        generalize ns[k] = n at *
        have f0 := hB.frozen 0; have f1 := hB.frozen 1; have f2 := hB.frozen 2; have f3 := hB.frozen 3; have f4 := hB.frozen 4
        obtain ⟨c0, c1, c2, c3, c4⟩ := cellsF_cell hB
        have HB := Lib.hid hB
        have Hy := Lib.hid hy
        clear hB hy hx
        generalize fb y 0 = b0 at *; generalize fb y 1 = b1 at *; generalize fb y 2 = b2 at *; generalize fb y 3 = b3 at *; generalize fb y 4 = b4 at *
        rcases ap1_cases n with rfl | ⟨j, hj, rfl⟩ | ⟨j, hj, rfl⟩ | ⟨hn0, hno⟩
        · go_wp2
          go_roundw
          case rel => exact ⟨k + 1, by omega, by go_num, by rw [HF.out]; exact ((((HB.out.set_ 0 _).set_ 1 _).set_ 2 _).set_ 3 _).set_ 4 _, by
            refine ((((hb.setCell ?_ _).setCell ?_ _).setCell ?_ _).setCell ?_ _).setCell ?_ _ <;> exact Nat.le_refl _⟩
          case measure => simp [intOf]; omega
        · match j, hj with
          | 0, hj =>
            rw [show pOn 0 = (1 : Int) from rfl] at hc
            go_wp2
            go_roundw
            case rel => exact ⟨k + 1, by omega, by go_num, by rw [HF.out]; exact step_on HB.out Hy.out.1 Hy.out.2 0 hj, hb.setCell (Nat.le_refl _) _⟩
            case measure => simp [intOf]; omega
          | 1, hj =>
            rw [show pOn 1 = (4 : Int) from rfl] at hc
            go_wp2
            go_roundw
            case rel => exact ⟨k + 1, by omega, by go_num, by rw [HF.out]; exact step_on HB.out Hy.out.1 Hy.out.2 1 hj, hb.setCell (Nat.le_refl _) _⟩
            case measure => simp [intOf]; omega
          | 2, hj =>
            rw [show pOn 2 = (5 : Int) from rfl] at hc
            go_wp2
            go_roundw
            case rel => exact ⟨k + 1, by omega, by go_num, by rw [HF.out]; exact step_on HB.out Hy.out.1 Hy.out.2 2 hj, hb.setCell (Nat.le_refl _) _⟩
            case measure => simp [intOf]; omega
          | 3, hj =>
            rw [show pOn 3 = (7 : Int) from rfl] at hc
            go_wp2
            go_roundw
            case rel => exact ⟨k + 1, by omega, by go_num, by rw [HF.out]; exact step_on HB.out Hy.out.1 Hy.out.2 3 hj, hb.setCell (Nat.le_refl _) _⟩
            case measure => simp [intOf]; omega
          | 4, hj =>
            rw [show pOn 4 = (8 : Int) from rfl] at hc
            go_wp2
            go_roundw
            case rel => exact ⟨k + 1, by omega, by go_num, by rw [HF.out]; exact step_on HB.out Hy.out.1 Hy.out.2 4 hj, hb.setCell (Nat.le_refl _) _⟩
            case measure => simp [intOf]; omega
        · match j, hj with
          | 0, hj =>
            rw [show pOff 0 = (22 : Int) from rfl] at hc
            go_wp2
            go_roundw
            case rel => exact ⟨k + 1, by omega, by go_num, by rw [HF.out]; exact step_off HB.out Hy.out.1 Hy.out.2 0 hj, hb.setCell (Nat.le_refl _) _⟩
            case measure => simp [intOf]; omega
          | 1, hj =>
            rw [show pOff 1 = (24 : Int) from rfl] at hc
            go_wp2
            go_roundw
            case rel => exact ⟨k + 1, by omega, by go_num, by rw [HF.out]; exact step_off HB.out Hy.out.1 Hy.out.2 1 hj, hb.setCell (Nat.le_refl _) _⟩
            case measure => simp [intOf]; omega
          | 2, hj =>
            rw [show pOff 2 = (25 : Int) from rfl] at hc
            go_wp2
            go_roundw
            case rel => exact ⟨k + 1, by omega, by go_num, by rw [HF.out]; exact step_off HB.out Hy.out.1 Hy.out.2 2 hj, hb.setCell (Nat.le_refl _) _⟩
            case measure => simp [intOf]; omega
          | 3, hj =>
            rw [show pOff 3 = (27 : Int) from rfl] at hc
            go_wp2
            go_roundw
            case rel => exact ⟨k + 1, by omega, by go_num, by rw [HF.out]; exact step_off HB.out Hy.out.1 Hy.out.2 3 hj, hb.setCell (Nat.le_refl _) _⟩
            case measure => simp [intOf]; omega
          | 4, hj =>
            rw [show pOff 4 = (28 : Int) from rfl] at hc
            go_wp2
            go_roundw
            case rel => exact ⟨k + 1, by omega, by go_num, by rw [HF.out]; exact step_off HB.out Hy.out.1 Hy.out.2 4 hj, hb.setCell (Nat.le_refl _) _⟩
            case measure => simp [intOf]; omega
        · have HN := Lib.hid (ap1_none (y := y) hn0 hno)
          obtain ⟨t1, t2⟩ := hno 0 (by omega)
          obtain ⟨t3, t4⟩ := hno 1 (by omega)
          obtain ⟨t5, t6⟩ := hno 2 (by omega)
          obtain ⟨t7, t8⟩ := hno 3 (by omega)
          obtain ⟨t9, t10⟩ := hno 4 (by omega)
          have u0 : (n == 0) = false := beq_eq_false_iff_ne.2 hn0
          have u1 : (n == 1) = false := beq_eq_false_iff_ne.2 t1
          have u2 : (n == 22) = false := beq_eq_false_iff_ne.2 t2
          have u3 : (n == 4) = false := beq_eq_false_iff_ne.2 t3
          have u4 : (n == 24) = false := beq_eq_false_iff_ne.2 t4
          have u5' : (n == 5) = false := beq_eq_false_iff_ne.2 t5
          have u6' : (n == 25) = false := beq_eq_false_iff_ne.2 t6
          have u7 : (n == 7) = false := beq_eq_false_iff_ne.2 t7
          have u8 : (n == 27) = false := beq_eq_false_iff_ne.2 t8
          have u9 : (n == 8) = false := beq_eq_false_iff_ne.2 t9
          have u10 : (n == 28) = false := beq_eq_false_iff_ne.2 t10
          clear t1 t2 t3 t4 t5 t6 t7 t8 t9 t10 hno hn0
          go_wp2
          go_roundw
          case rel => exact ⟨k + 1, by omega, by go_num, by rw [HF.out, HN.out]; exact HB.out, hb⟩
          case measure => simp [intOf]; omega
      · obtain rfl : k = ns.length := by omega
        rw [List.take_length, HAp.out] at hB hy
        obtain ⟨c0, c1, c2, c3, c4⟩ := cellsF_cell hB
        have HR := Lib.hid (rd_fb hy.1 (by omega : apply x ns ≤ 255))
        have hmod : apply x ns % 32 = apply x ns := by omega
        rw [hmod] at HR
        clear hmod
        generalize hra : apply x ns = r at *
        have Hra := Lib.hid hra
        clear hra
        generalize fb r 0 = b0 at *; generalize fb r 1 = b1 at *; generalize fb r 2 = b2 at *; generalize fb r 3 = b3 at *; generalize fb r 4 = b4 at *
        clear hy
        go_wp2_with (go_at_call 47; refine (rend_any _ _ _ _ _ _).mono ?_; rintro e w2 ⟨rfl, hb2⟩)
        go_ret
        exact ⟨ret_int (HR.out.trans Hra.out.symm), (hb1.trans (hb.mono hb1.size)).trans (hb2.mono (Nat.le_trans hb1.size hb.size))⟩
end Go.Proofs.YtflnjlcdpmmjlaaDoor

/-
  The walks of a set's own glyphs, and of a code's glyph; how many sets there are, a set's name, whether it is a national one.
-/
import Derived.Test.YtandfpghjbbalaaDoorChsB
namespace Go.Proofs.YtandfpghjbbalaaDoor
open Go Go.RowKit

set_option maxHeartbeats 1000000 in
theorem has_any (x : Int) (m : Nat) (hm : m < 128) (w : World) (ht : Faces w) :
    Calls Tryd.prog 41 #[.int .i64 x, .int .u8 m] w fun e w' => e = .returned (.bool (hasP (setN x) m)) ∧ Below w.heap.size w w' := by
  have HI := Lib.hid (fun W => isSet_any x W)
  have HF := Lib.hid (faceOf_any x w ht)
  unfold hasP
  unfold faceV at HF
  rcases h1 : decide (1 ≤ setN x) with _ | _
  · rw [h1] at HI
    rw [Bool.false_and]
    clear h1
    go_enter Tryd.func41, Tryd.ntmps41
    go_wp2_with fail
    refine (HI.out _).mono ?_
    rintro e w1 ⟨rfl, rfl⟩
    go_wp2_with fail
    go_ret
    exact ⟨rfl, Below.refl _ _⟩
  · rw [h1] at HI
    rw [Bool.true_and]
    clear h1
    generalize wideP (setN x) = wd at *
    generalize nmP (setN x) = nm at *
    generalize idsP (setN x) = ids at *
    generalize aboP (setN x) = ab at *
    rcases h2 : decide (32 ≤ m) with _ | _
    · have g2 : decide (32 ≤ (m : Int)) = false := by simp at h2 ⊢; omega
      rw [Bool.false_and]
      clear h2
      go_enter Tryd.func41, Tryd.ntmps41
      go_wp2_with fail
      refine (HI.out _).mono ?_
      rintro e w1 ⟨rfl, rfl⟩
      go_wp2_with fail
      go_ret
      exact ⟨rfl, Below.refl _ _⟩
    · have g2 : decide (32 ≤ (m : Int)) = true := by simp at h2 ⊢; omega
      rw [Bool.true_and]
      clear h2
      by_cases h3 : m = 127
      · subst h3
        rw [show decide (127 ≠ 127) = false from rfl, Bool.false_or]
        go_enter Tryd.func41, Tryd.ntmps41
        go_wp2_with fail
        refine (HI.out _).mono ?_
        rintro e w1 ⟨rfl, rfl⟩
        go_wp2_with fail
        refine HF.out.mono ?_
        rintro e w1 ⟨rfl, hb1⟩
        have HB := Lib.hid hb1
        clear hb1
        have hfd : ∀ W, (Instr.field 65 (.agg #[.string nm, .string ids, .bool wd, .int .i32 ab]) 2).run Tryd.prog W = .ok (.bool wd) W := fun W => by kernel_rfl
        go_wp2_with fail
        go_ret
        exact ⟨rfl, HB.out⟩
      · rw [decide_eq_true h3, Bool.true_or]
        have g3 : ((m : Int) != 127) = true := by simp; omega
        have g4 : ((m : Int) == 127) = false := by rw [beq_eq_false_iff_ne]; omega
        go_enter Tryd.func41, Tryd.ntmps41
        go_wp2_with fail
        refine (HI.out _).mono ?_
        rintro e w1 ⟨rfl, rfl⟩
        go_wp2_with fail
        go_ret
        exact ⟨rfl, Below.refl _ _⟩

set_option maxRecDepth 100000 in
set_option maxHeartbeats 8000000 in
theorem own_any : ∀ (k : Nat) (_h1 : 1 ≤ k) (_h2 : k ≤ 17) (w : World),
    Calls Tryd.prog 43 #[.int .i64 k] w fun e w' => e = .returned (.tuple #[.string (codP k), .string (glyP k)]) ∧ w = w'
  | 0, h, _, _ => absurd h (by omega)
  | 1, _, _, w => by
    go_enter Tryd.func43, Tryd.ntmps43
    go_wp2_with fail
    go_ret2
    exact ⟨rfl, rfl⟩
  | 2, _, _, w => by
    go_enter Tryd.func43, Tryd.ntmps43
    go_wp2_with fail
    go_ret2
    exact ⟨rfl, rfl⟩
  | 3, _, _, w => by
    go_enter Tryd.func43, Tryd.ntmps43
    go_wp2_with fail
    go_ret2
    exact ⟨rfl, rfl⟩
  | 4, _, _, w => by
    go_enter Tryd.func43, Tryd.ntmps43
    go_wp2_with fail
    go_ret2
    exact ⟨rfl, rfl⟩
  | 5, _, _, w => by
    go_enter Tryd.func43, Tryd.ntmps43
    go_wp2_with fail
    go_ret2
    exact ⟨rfl, rfl⟩
  | 6, _, _, w => by
    go_enter Tryd.func43, Tryd.ntmps43
    go_wp2_with fail
    go_ret2
    exact ⟨rfl, rfl⟩
  | 7, _, _, w => by
    go_enter Tryd.func43, Tryd.ntmps43
    go_wp2_with fail
    go_ret2
    exact ⟨rfl, rfl⟩
  | 8, _, _, w => by
    go_enter Tryd.func43, Tryd.ntmps43
    go_wp2_with fail
    go_ret2
    exact ⟨rfl, rfl⟩
  | 9, _, _, w => by
    go_enter Tryd.func43, Tryd.ntmps43
    go_wp2_with fail
    go_ret2
    exact ⟨rfl, rfl⟩
  | 10, _, _, w => by
    go_enter Tryd.func43, Tryd.ntmps43
    go_wp2_with fail
    go_ret2
    exact ⟨rfl, rfl⟩
  | 11, _, _, w => by
    go_enter Tryd.func43, Tryd.ntmps43
    go_wp2_with fail
    go_ret2
    exact ⟨rfl, rfl⟩
  | 12, _, _, w => by
    go_enter Tryd.func43, Tryd.ntmps43
    go_wp2_with fail
    go_ret2
    exact ⟨rfl, rfl⟩
  | 13, _, _, w => by
    go_enter Tryd.func43, Tryd.ntmps43
    go_wp2_with fail
    go_ret2
    exact ⟨rfl, rfl⟩
  | 14, _, _, w => by
    go_enter Tryd.func43, Tryd.ntmps43
    go_wp2_with fail
    go_ret2
    exact ⟨rfl, rfl⟩
  | 15, _, _, w => by
    go_enter Tryd.func43, Tryd.ntmps43
    go_wp2_with fail
    go_ret2
    exact ⟨rfl, rfl⟩
  | 16, _, _, w => by
    go_enter Tryd.func43, Tryd.ntmps43
    go_wp2_with fail
    go_ret2
    exact ⟨rfl, rfl⟩
  | 17, _, _, w => by
    go_enter Tryd.func43, Tryd.ntmps43
    go_wp2_with fail
    go_ret2
    exact ⟨rfl, rfl⟩
  | n + 18, _, h, _ => absurd h (by omega)
end Go.Proofs.YtandfpghjbbalaaDoor

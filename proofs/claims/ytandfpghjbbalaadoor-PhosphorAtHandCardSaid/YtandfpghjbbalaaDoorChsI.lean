/-
  The walk of the reference's glyph of a code: the same as the program's.
-/
import Derived.Test.YtandfpghjbbalaaDoorChsE1
import Derived.Test.YtandfpghjbbalaaDoorChsE2
import Derived.Test.YtandfpghjbbalaaDoorChsG
import Derived.Test.YtandfpghjbbalaaDoorChsH
namespace Go.Proofs.YtandfpghjbbalaaDoor
open Go Go.RowKit

theorem gp_low : ∀ k, k < 18 → ∀ c, c < 32 → gP k c = 0 := by decide +kernel
theorem gp_zero : ∀ c, c < 128 → gP 0 c = 0 := by decide +kernel
theorem gp_127 : ∀ k, k < 18 → k ≠ 5 → gP k 127 = 0 := by decide +kernel
theorem gp_32 : ∀ k, k < 18 → 1 ≤ k → k ≠ 5 → gP k 32 = 32 := by decide +kernel
theorem gp_5 : ∀ c, c < 128 → 32 ≤ c → gP 5 c = (c : Int) + 128 := by decide +kernel
theorem gp_le : ∀ k, k < 18 → ∀ c, c < 128 → 0 ≤ gP k c ∧ gP k c ≤ 65535 := by decide +kernel
theorem wrap32_in (z : Int) (h0 : 0 ≤ z) (h1 : z ≤ 65535) : IntKind.i32.wrap z = z := by simp [IntKind.wrap, IntKind.signed, IntKind.bits]; omega

set_option maxHeartbeats 2000000 in
set_option maxRecDepth 100000 in
theorem nation_any1 (c : Nat) (h1 : 32 ≤ c) (h2 : c < 127) (w : World) :
    Calls Tryd.prog 49 #[.int .i64 1, .int .i64 c] w fun e w' => e = .returned (.int .i64 (gP 1 c)) ∧ w = w' := by
  rw [nat_out 1 (by decide) (by decide) (by decide) c h2 h1 (by intro p hp; cases hp)]
  go_enter Tryd.func49, Tryd.ntmps49
  go_wp2_with fail
  go_ret
  exact ⟨rfl, rfl⟩
theorem nation_all (k : Nat) (hk : k < 18) (h0 : k ≠ 0) (h5 : ¬ (2 ≤ k ∧ k ≤ 5)) (c : Nat) (h1 : 32 ≤ c) (h2 : c < 127) (w : World) :
    Calls Tryd.prog 49 #[.int .i64 k, .int .i64 c] w fun e w' => e = .returned (.int .i64 (gP k c)) ∧ w = w' := by
  rcases (by omega : k = 1 ∨ k = 6 ∨ k = 7 ∨ k = 8 ∨ k = 9 ∨ k = 10 ∨ k = 11 ∨ k = 12 ∨ k = 13 ∨ k = 14 ∨ k = 15 ∨ k = 16 ∨ k = 17) with rfl | rfl | rfl | rfl | rfl | rfl | rfl | rfl | rfl | rfl | rfl | rfl | rfl
  · exact nation_any1 c h1 h2 w
  · exact nation_any6 c h1 h2 w
  · exact nation_any7 c h1 h2 w
  · exact nation_any8 c h1 h2 w
  · exact nation_any9 c h1 h2 w
  · exact nation_any10 c h1 h2 w
  · exact nation_any11 c h1 h2 w
  · exact nation_any12 c h1 h2 w
  · exact nation_any13 c h1 h2 w
  · exact nation_any14 c h1 h2 w
  · exact nation_any15 c h1 h2 w
  · exact nation_any16 c h1 h2 w
  · exact nation_any17 c h1 h2 w
theorem refWide_any (x : Int) (w : World) :
    Calls Tryd.prog 19 #[.int .i64 x] w fun e w' => e = .returned (.bool (x == 5)) ∧ w = w' := by
  go_enter Tryd.func19, Tryd.ntmps19
  go_wp2_with fail
  go_ret
  exact ⟨rfl, rfl⟩
set_option maxHeartbeats 8000000 in
set_option maxRecDepth 100000 in
theorem refGlyph_any (x : Int) (n : Nat) (hn : n < 256) (w : World) :
    Calls Tryd.prog 14 #[.int .i64 x, .int .u8 n] w fun e w' => e = .returned (.int .i32 (gP (setN x) (n % 128))) ∧ Below w.heap.size w w' := by
  have hrem : (n : Int).tmod 128 = ((n % 128 : Nat) : Int) := rfl
  have hm : n % 128 < 128 := Nat.mod_lt _ (by omega)
  have hk : setN x < 18 := by unfold setN; split <;> omega
  have hwn : IntKind.i64.wrap (n : Int) = n := IntWalk.i64_in _ (by omega)
  have hwm : IntKind.i64.wrap ((n % 128 : Nat) : Int) = ((n % 128 : Nat) : Int) := IntWalk.i64_in _ (by omega)
  have HW := Lib.hid (fun W => refWide_any x W)
  obtain ⟨hg0, hg1⟩ := gp_le (setN x) hk (n % 128) hm
  have hwg : IntKind.i32.wrap (gP (setN x) (n % 128)) = gP (setN x) (n % 128) := wrap32_in _ hg0 hg1
  have HWG := Lib.hid hwg
  clear hwg hg0 hg1
  have hset : (decide (x < 1) = true ∧ setN x = 0) ∨ (decide (x < 1) = false ∧ decide (17 < x) = true ∧ setN x = 0) ∨ (decide (x < 1) = false ∧ decide (17 < x) = false ∧ x = (setN x : Nat) ∧ 1 ≤ setN x) := by
    by_cases h : 1 ≤ x ∧ x ≤ 17
    · obtain ⟨e, h1, h2⟩ := setN_in x h
      exact .inr (.inr ⟨by simp; omega, by simp; omega, e.symm, h1⟩)
    · rw [setN_out x h]
      by_cases h1 : x < 1
      · exact .inl ⟨by simpa using h1, rfl⟩
      · exact .inr (.inl ⟨by simpa using h1, by simp; omega, rfl⟩)
  generalize n % 128 = m at *
  generalize setN x = k at *
  rcases hset with ⟨g1, rfl⟩ | ⟨g1, g2, rfl⟩ | ⟨g1, g2, e, hk1⟩
  · rw [gp_zero m hm]
    clear hwm
    go_enter Tryd.func14, Tryd.ntmps14
    go_wp2_with fail
    go_ret
    exact ⟨rfl, Below.refl _ _⟩
  · rw [gp_zero m hm]
    clear hwm
    go_enter Tryd.func14, Tryd.ntmps14
    go_wp2_with fail
    go_ret
    exact ⟨rfl, Below.refl _ _⟩
  · by_cases h32 : m < 32
    · rw [gp_low k hk m h32]
      have g3 : decide ((m : Int) < 32) = true := by simp; omega
      clear hwm e
      go_enter Tryd.func14, Tryd.ntmps14
      go_wp2_with fail
      go_ret
      exact ⟨rfl, Below.refl _ _⟩
    · have g3 : decide ((m : Int) < 32) = false := by simp; omega
      by_cases h5 : k = 5
      · subst h5
        rw [gp_5 m hm (by omega)] at HWG ⊢
        have hw8 : IntKind.i64.wrap ((m : Int) + 128) = (m : Int) + 128 := IntWalk.i64_in _ (by omega)
        subst e
        clear hwm h32 hm hn hk1 hk
        have hw9 := HWG.out
        generalize (m : Int) = y at *
        go_enter Tryd.func14, Tryd.ntmps14
        go_wp2_with fail
        refine (HW.out _).mono ?_
        rintro e w1 ⟨rfl, rfl⟩
        go_wp2_with fail
        go_ret
        exact ⟨rfl, Below.refl _ _⟩
      · have g5 : (x == 5) = false := by rw [beq_eq_false_iff_ne]; omega
        rw [g5] at HW
        by_cases h127 : m = 127
        · subst h127
          rw [gp_127 k hk h5]
          clear hwm HWG e
          go_enter Tryd.func14, Tryd.ntmps14
          go_wp2_with fail
          refine (HW.out _).mono ?_
          rintro e w1 ⟨rfl, rfl⟩
          go_wp2_with fail
          go_ret
          exact ⟨rfl, Below.refl _ _⟩
        · have g127 : ((m : Int) == 127) = false := by rw [beq_eq_false_iff_ne]; omega
          by_cases h33 : m = 32
          · subst h33
            rw [gp_32 k hk hk1 h5]
            clear hwm HWG e
            go_enter Tryd.func14, Tryd.ntmps14
            go_wp2_with fail
            refine (HW.out _).mono ?_
            rintro e w1 ⟨rfl, rfl⟩
            go_wp2_with fail
            go_ret
            exact ⟨rfl, Below.refl _ _⟩
          · have g32 : ((m : Int) == 32) = false := by rw [beq_eq_false_iff_ne]; omega
            have hwg := HWG.out
            by_cases h2 : k = 2
            · subst h2
              subst e
              have HC := Lib.hid (fun W => spc_any m (by omega) (by omega) W)
              generalize gP 2 m = g at *
              clear hwm hm hn h32 h127 h33 g5
              go_enter Tryd.func14, Tryd.ntmps14
              go_wp2_with fail
              refine (HW.out _).mono ?_
              rintro e w1 ⟨rfl, rfl⟩
              go_wp2_with fail
              refine (HC.out _).mono ?_
              rintro e w1 ⟨rfl, hb1⟩
              have HB := Lib.hid hb1
              clear hb1
              go_wp2_with fail
              go_ret
              exact ⟨rfl, HB.out⟩
            · by_cases h3 : k = 3
              · subst h3
                subst e
                have HC := Lib.hid (fun W => tec_any m (by omega) (by omega) W)
                generalize gP 3 m = g at *
                clear hwm hm hn h32 h127 h33 g5
                go_enter Tryd.func14, Tryd.ntmps14
                go_wp2_with fail
                refine (HW.out _).mono ?_
                rintro e w1 ⟨rfl, rfl⟩
                go_wp2_with fail
                refine (HC.out _).mono ?_
                rintro e w1 ⟨rfl, hb1⟩
                have HB := Lib.hid hb1
                clear hb1
                go_wp2_with fail
                go_ret
                exact ⟨rfl, HB.out⟩
              · by_cases h4 : k = 4
                · subst h4
                  subst e
                  have HC := Lib.hid (fun W => sup_any m (by omega) (by omega) W)
                  generalize gP 4 m = g at *
                  clear hwm hm hn h32 h127 h33 g5
                  go_enter Tryd.func14, Tryd.ntmps14
                  go_wp2_with fail
                  refine (HW.out _).mono ?_
                  rintro e w1 ⟨rfl, rfl⟩
                  go_wp2_with fail
                  refine (HC.out _).mono ?_
                  rintro e w1 ⟨rfl, rfl⟩
                  go_wp2_with fail
                  go_ret
                  exact ⟨rfl, Below.refl _ _⟩
                · have HC : Hid (∀ W, Calls Tryd.prog 49 #[.int .i64 x, .int .i64 m] W fun e w' => e = .returned (.int .i64 (gP k m)) ∧ W = w') := Lib.hid (fun W => by rw [e]; exact nation_all k hk (by omega) (by omega) m (by omega) (by omega) W)
                  have q2 : (x == 2) = false := by rw [beq_eq_false_iff_ne]; omega
                  have q3 : (x == 3) = false := by rw [beq_eq_false_iff_ne]; omega
                  have q4 : (x == 4) = false := by rw [beq_eq_false_iff_ne]; omega
                  generalize gP k m = g at *
                  clear hwm hm hn h32 h127 h33 g5 e h2 h3 h4 hk hk1 h5
                  go_enter Tryd.func14, Tryd.ntmps14
                  go_wp2_with fail
                  refine (HW.out _).mono ?_
                  rintro e w1 ⟨rfl, rfl⟩
                  go_wp2_with fail
                  refine (HC.out _).mono ?_
                  rintro e w1 ⟨rfl, rfl⟩
                  go_wp2_with fail
                  go_ret
                  exact ⟨rfl, Below.refl _ _⟩
end Go.Proofs.YtandfpghjbbalaaDoor

/-
  The walks of stops: more or fewer columns; new ones; all of them as numbers.
-/
import Derived.Test.YtnfdgioapbkonaaDoorTabC
import Derived.Test.YtnfdgioapbkonaaDoorCuts
namespace Go.Proofs.YtnfdgioapbkonaaDoor

open Go Go.RowKit

/-- So many columns as may be. -/
def colsT (c : Int) : Nat := min c.toNat 500
/-- What is left where some columns go. -/
def lessH (h : Nat → Bool) (N k : Nat) : Nat → Bool := fun d => h d && !(decide (N ≤ d) && decide (d < k))
/-- What is there where some columns come. -/
def moreH (h : Nat → Bool) (n k : Nat) : Nat → Bool := fun d => h d || (decide (n ≤ d) && decide (d < k) && decide (0 < d) && decide (d % 8 = 0))
theorem lessH_start (h : Nat → Bool) (N d : Nat) : h d = lessH h N N d := by
  unfold lessH
  have : (decide (N ≤ d) && decide (d < N)) = false := by simp
  rw [this]; simp
theorem lessH_step (h : Nat → Bool) (N k d : Nat) (hk : N ≤ k) : (lessH h N k d && !decide (k = d)) = lessH h N (k + 1) d := by
  unfold lessH
  by_cases e : k = d
  · subst e
    have : decide (N ≤ k) = true := by simpa using hk
    simp [this]
  · have : decide (d < k + 1) = decide (d < k) := by rw [decide_eq_decide]; omega
    rw [this]; simp [e]
theorem moreH_start (h : Nat → Bool) (n d : Nat) : h d = moreH h n n d := by
  unfold moreH
  have : (decide (n ≤ d) && decide (d < n)) = false := by simp
  rw [this]; simp
theorem moreH_set (h : Nat → Bool) (n k d : Nat) (hk : n ≤ k) (h0 : 0 < k) (h8 : k % 8 = 0) : (moreH h n k d || decide (k = d)) = moreH h n (k + 1) d := by
  unfold moreH
  by_cases e : k = d
  · subst e
    simp [hk, h0, h8]
  · have : decide (d < k + 1) = decide (d < k) := by rw [decide_eq_decide]; omega
    rw [this]; simp [e]
theorem moreH_skip (h : Nat → Bool) (n k d : Nat) (hn : ¬ (0 < k ∧ k % 8 = 0)) : moreH h n k d = moreH h n (k + 1) d := by
  unfold moreH
  by_cases e : k = d
  · subst e
    have h1 : decide (k < k) = false := by simp
    have h2 : (decide (0 < k) && decide (k % 8 = 0)) = false := by rw [← Bool.decide_and, decide_eq_false hn]
    rw [h1, Bool.and_assoc, Bool.and_assoc, Bool.and_assoc, h2]; simp
  · have : decide (d < k + 1) = decide (d < k) := by rw [decide_eq_decide]; omega
    rw [this]
theorem stopsC_cols (n N : Nat) (ws : List Nat) : (stopsC n ws).setIfInBounds 0 (.int .i64 N) = stopsC N ws := by
  unfold stopsC
  rw [List.setIfInBounds_toArray, List.set_cons_zero]
theorem Stp.size {w : World} {B n N : Nat} {h : Nat → Bool} (s : Stp w B n h) (hN : N ≤ 500) : Stp (w.setCell ⟨B, 0, none⟩ (.int .i64 (N : Int))) B N h := by
  obtain ⟨ws, h1, h2⟩ := s
  refine ⟨ws, ?_, h2.len, h2.lt, hN, h2.has⟩
  have := h1.set_ 0 (.int .i64 N)
  rw [stopsC_cols] at this
  exact this
theorem Stp.free {w : World} {B n : Nat} {h : Nat → Bool} (s : Stp w B n h) (o : Nat) : w.frozen? ⟨B, o, none⟩ = false := let ⟨_, h1, _⟩ := s; h1.frozen o

set_option maxRecDepth 100000 in
set_option maxHeartbeats 4000000 in
theorem resize_any (B n : Nat) (h : Nat → Bool) (c : Int) (w : World) (s : Stp w B n h) :
    Calls Tryd.prog 9 #[.pointer (some ⟨B, 0, none⟩), .int .i64 c] w fun e w' => e = .returned (.tuple #[]) ∧ Stp w' B (colsT c) (moreH (lessH h (colsT c) (max (colsT c) n)) n (max n (colsT c))) ∧ w.grownBy w' (some B) := by
  have hmm : min (max c 0) 500 = (colsT c : Int) := by unfold colsT; omega
  have hN : colsT c ≤ 500 := by unfold colsT; omega
  have hn := s.cols.2
  have HS := Lib.hid s
  clear s
  generalize colsT c = N at *
  have hcase : (c < 0 ∧ N = 0) ∨ (0 ≤ c ∧ c ≤ 500 ∧ c = N) ∨ (500 < c ∧ N = 500) := by omega
  have HCa := Lib.hid hcase
  clear hcase hmm
  go_enter Tryd.func9, Tryd.ntmps9
  go_upto_region 0 with (fail)
  go_cut [1] (fun s wx => s = .int .i64 (N : Int) ∧ w = wx)
  case first =>
    rcases HCa.out with ⟨h1, rfl⟩ | ⟨h1, h2, rfl⟩ | ⟨h1, rfl⟩
    all_goals
      go_wp2_with fail
      go_meet
      exact ⟨rfl, rfl⟩
  case rest =>
    obtain ⟨rfl, rfl⟩ := hcut
    clear HCa
    go_wp2_with fail
    go_loopw [4] (fun i wr => ∃ k : Nat, N ≤ k ∧ k ≤ max N n ∧ i = .int .i64 k ∧ Stp wr B n (lessH h N k) ∧ w.grownBy wr (some B)) (fun i _ => max N n - (intOf i).toNat)
    case atStart => exact ⟨N, Nat.le_refl _, by omega, rfl, HS.out.to (fun d _ => lessH_start h N d), World.grownBy.refl w _⟩
    case round =>
      obtain ⟨k, hk, hk2, rfl, hs, hg⟩ := hrel
      have HS1 := Lib.hid hs; have HG1 := Lib.hid hg
      obtain ⟨c0, _⟩ := hs.cols
      clear hs hg
      by_cases hlt : k < n
      · have HCl := Lib.hid (fun W s' => clear_yes B n (lessH h N k) k hlt W s')
        go_wp2_with fail
        refine (HCl.out _ HS1.out).mono ?_
        rintro e w1 ⟨rfl, hs1, hg1⟩
        have HS2 := Lib.hid (hs1.to (fun d _ => lessH_step h N k d hk))
        have HG2 := Lib.hid (grown_tr HG1.out hg1)
        clear hs1 hg1 c0
        go_wp2_with fail
        go_roundw
        case rel => exact ⟨k + 1, by omega, by omega, by go_num, HS2.out, HG2.out⟩
        case measure => simp [intOf]; omega
      · obtain rfl : k = max N n := by omega
        have HSz := Lib.hid (HS1.out.size (N := N) hN)
        have HGz := Lib.hid (grown_tr HG1.out (grown_set1 (w := wr) (g := B) (o := 0) (v := .int .i64 (N : Int))))
        have hf0 := HS1.out.free 0
        go_wp2_with fail
        generalize wr.setCell ⟨B, 0, none⟩ (.int .i64 (N : Int)) = W1 at *
        clear hf0 c0 HS1 HG1
        generalize hh1 : lessH h N (max N n) = h1 at *
        have HH1 := Lib.hid hh1
        clear hh1
        go_loopw [6] (fun i wr => ∃ k : Nat, n ≤ k ∧ k ≤ max n N ∧ i = .int .i64 k ∧ Stp wr B N (moreH h1 n k) ∧ w.grownBy wr (some B)) (fun i _ => max n N - (intOf i).toNat)
        case atStart => exact ⟨n, Nat.le_refl _, by omega, rfl, HSz.out.to (fun d _ => moreH_start h1 n d), HGz.out⟩
        case round =>
          obtain ⟨k, hk, hk2, rfl, hs, hg⟩ := hrel
          have HS1 := Lib.hid hs; have HG1 := Lib.hid hg
          clear hs hg
          by_cases hlt : k < N
          · have hm8 : (k : Int).tmod 8 = ((k % 8 : Nat) : Int) := by rw [Int.tmod_eq_emod_of_nonneg (by omega)]; rfl
            have HM8 := Lib.hid hm8
            clear hm8
            by_cases h0 : 0 < k
            · by_cases h8 : k % 8 = 0
              · have HSt := Lib.hid (fun W s' => set_yes B N (moreH h1 n k) k hlt W s')
                have HTo := Lib.hid (fun d => moreH_set h1 n k d hk h0 h8)
                have hm8 := HM8.out
                rw [h8] at hm8
                have hd : decide (0 < k) = true := by simpa using h0
                clear h8
                go_wp2_with fail
                refine (HSt.out _ HS1.out).mono ?_
                rintro e w1 ⟨rfl, hs1, hg1⟩
                have HS2 := Lib.hid (hs1.to (fun d _ => HTo.out d))
                have HG2 := Lib.hid (grown_tr HG1.out hg1)
                clear hs1 hg1 hm8
                go_wp2_with fail
                go_roundw
                case rel => exact ⟨k + 1, by omega, by omega, by go_num, HS2.out, HG2.out⟩
                case measure => simp [intOf]; omega
              · have HTo := Lib.hid (fun d => moreH_skip h1 n k d (by omega))
                have HS2 := Lib.hid (HS1.out.to (fun d _ => HTo.out d))
                obtain ⟨m, hm⟩ : ∃ m, m = k % 8 := ⟨_, rfl⟩
                have hm8 := HM8.out
                rw [← hm] at hm8
                have hd : decide (0 < k) = true := by simpa using h0
                have hb : (m == 0) = false := by simp; omega
                have hb2 : ((m : Int) == 0) = false := by simp; omega
                clear h8 hm
                go_wp2_with fail
                clear hm8
                go_roundw
                case rel => exact ⟨k + 1, by omega, by omega, by go_num, HS2.out, HG1.out⟩
                case measure => simp [intOf]; omega
            · obtain rfl : k = 0 := by omega
              have HTo := Lib.hid (fun d => moreH_skip h1 n 0 d (by omega))
              have HS2 := Lib.hid (HS1.out.to (fun d _ => HTo.out d))
              clear HM8 h0
              go_wp2_with fail
              go_roundw
              case rel => exact ⟨1, by omega, by omega, rfl, HS2.out, HG1.out⟩
              case measure => simp [intOf]; omega
          · obtain rfl : k = max n N := by omega
            go_wp2_with fail
            go_end0
            exact ⟨rfl, by rw [HH1.out]; exact HS1.out, HG1.out⟩
end Go.Proofs.YtnfdgioapbkonaaDoor

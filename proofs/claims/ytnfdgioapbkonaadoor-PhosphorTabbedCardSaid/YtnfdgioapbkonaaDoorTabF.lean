/-
  The walks of stops: the n-th one to the right; the reference's yes or no for every column: its list, its next and its last stop.
-/
import Derived.Test.YtnfdgioapbkonaaDoorTabE
namespace Go.Proofs.YtnfdgioapbkonaaDoor

open Go Go.RowKit

/-- The k-th stop to the right of a column, of the r columns from a on. -/
def nextG (h : Nat → Bool) (col : Int) : Nat → Nat → Int → Option Nat
  | 0, _, _ => none
  | r + 1, a, k => if decide (col < (a : Int)) && h a then (if k - 1 = 0 then some a else nextG h col r (a + 1) (k - 1)) else nextG h col r (a + 1) k
theorem nextG_succ (h : Nat → Bool) (col : Int) (r a : Nat) (k : Int) : nextG h col (r + 1) a k = if decide (col < (a : Int)) && h a then (if k - 1 = 0 then some a else nextG h col r (a + 1) (k - 1)) else nextG h col r (a + 1) k := rfl
theorem nextG_lt (h : Nat → Bool) (col : Int) : ∀ r a k m, nextG h col r a k = some m → a ≤ m ∧ m < a + r ∧ h m = true ∧ col < m := by
  intro r
  induction r with
  | zero => intro a k m e; simp [nextG] at e
  | succ r ih =>
    intro a k m e
    unfold nextG at e
    split at e
    · rename_i hc
      simp at hc
      split at e
      · injection e with e; subst e; exact ⟨by omega, by omega, hc.2, hc.1⟩
      · have := ih _ _ _ e; exact ⟨by omega, by omega, this.2.2⟩
    · have := ih _ _ _ e; exact ⟨by omega, by omega, this.2.2⟩
theorem nextG_congr (h h' : Nat → Bool) (col : Int) : ∀ r a k, (∀ c, a ≤ c → c < a + r → h c = h' c) → nextG h col r a k = nextG h' col r a k := by
  intro r
  induction r with
  | zero => intro a k e; rfl
  | succ r ih =>
    intro a k e
    unfold nextG
    rw [e a (by omega) (by omega), ih (a + 1) k (fun c h1 h2 => e c (by omega) (by omega)), ih (a + 1) (k - 1) (fun c h1 h2 => e c (by omega) (by omega))]
/-- The n-th stop to the right, or the edge. -/
def nextP (h : Nat → Bool) (n : Nat) (col k : Int) : Int := if k < 1 then nearP n col else match nextG h col n 0 k with | some a => a | none => nearP n n
theorem nextP_small (h : Nat → Bool) (n : Nat) (col k : Int) (hk : k < 1) : nextP h n col k = nearP n col := if_pos hk
theorem nextP_some (h : Nat → Bool) (n : Nat) (col k : Int) (hk : ¬ k < 1) (a : Nat) (e : nextG h col n 0 k = some a) : nextP h n col k = a := by unfold nextP; rw [if_neg hk, e]
theorem nextP_none (h : Nat → Bool) (n : Nat) (col k : Int) (hk : ¬ k < 1) (e : nextG h col n 0 k = none) : nextP h n col k = nearP n n := by unfold nextP; rw [if_neg hk, e]
/-- One less, of a number that is not below 1: no int is passed. -/
def Less (k : Int) : Prop := ∀ j, 1 ≤ j → j ≤ k → IntKind.i64.wrap (j - 1) = j - 1

set_option maxRecDepth 100000 in
set_option maxHeartbeats 4000000 in
theorem next_any (B n : Nat) (h : Nat → Bool) (col k0 : Int) (hless : Less k0) (w : World) (s : Stp w B n h) :
    Calls Tryd.prog 16 #[.pointer (some ⟨B, 0, none⟩), .int .i64 col, .int .i64 k0] w fun e w' => e = .returned (.int .i64 (nextP h n col k0)) ∧ Below w.heap.size w w' := by
  have HS := Lib.hid s
  obtain ⟨c0, hn⟩ := s.cols
  have HNe := Lib.hid (fun c W s' => nearest_any B n h c W s')
  clear s
  by_cases hk : k0 < 1
  · have HP := Lib.hid (nextP_small h n col k0 hk)
    have hd : decide (k0 < 1) = true := by simpa using hk
    generalize nextP h n col k0 = z at *
    go_enter Tryd.func16, Tryd.ntmps16
    go_wp2_with fail
    refine (HNe.out _ _ HS.out).mono ?_
    rintro e w1 ⟨rfl, hb1⟩
    have HB := Lib.hid hb1
    clear hb1
    go_wp2_with fail
    go_ret
    exact ⟨ret_int HP.out.symm, HB.out⟩
  · have hd : decide (k0 < 1) = false := by simpa using hk
    have HS2 := Lib.hid (nextP_some h n col k0 hk)
    have HN2 := Lib.hid (nextP_none h n col k0 hk)
    have HLess := Lib.hid hless
    clear hless
    generalize nextP h n col k0 = z at *
    go_enter Tryd.func16, Tryd.ntmps16
    go_wp2_with fail
    go_loopw [2, 17] (fun j i wr => ∃ (a : Nat) (k : Int), a ≤ n ∧ 1 ≤ k ∧ k ≤ k0 ∧ i = .int .i64 a ∧ j = .int .i64 k ∧ nextG h col (n - a) a k = nextG h col n 0 k0 ∧ Below w.heap.size w wr) (fun _ i _ => n - (intOf i).toNat)
    case atStart => exact ⟨0, k0, by omega, by omega, Int.le_refl _, rfl, rfl, rfl, Below.refl _ _⟩
    case round =>
      obtain ⟨a, k, ha, hk1, hk0, rfl, rfl, hg, hb⟩ := hrel
      have HB := Lib.hid hb
      clear hb hd
      by_cases hlt : a < n
      · have hr : n - a = (n - (a + 1)) + 1 := by omega
        rw [hr, nextG_succ] at hg
        by_cases hcol : col < (a : Int)
        · have hd1 : decide ((a : Int) ≤ col) = false := by simpa using hcol
          have HH := Lib.hid (fun W s' => has_yes B n h a hlt W s')
          rcases hh : h a with _ | _
          · rw [hh] at HH hg
            rw [Bool.and_false, if_neg (by simp)] at hg
            have HG := Lib.hid hg
            clear hg hh hr
            go_wp2_with fail
            refine (HH.out _ (HS.out.next HB.out)).mono ?_
            rintro e w1 ⟨rfl, hb1⟩
            have HB1 := Lib.hid (HB.out.trans (hb1.mono HB.out.size))
            clear hb1
            go_wp2_with fail
            go_roundw
            case rel => exact ⟨a + 1, k, by omega, hk1, hk0, by go_num, rfl, HG.out, HB1.out⟩
            case measure => simp [intOf]; omega
          · rw [hh] at HH hg
            have ht : (decide (col < (a : Int)) && true) = true := by simpa using hcol
            rw [if_pos ht] at hg
            have hw := HLess.out k hk1 hk0
            clear hh hr ht
            by_cases h1 : k - 1 = 0
            · rw [if_pos h1] at hg
              obtain rfl : k = 1 := by omega
              have HA := Lib.hid (HS2.out a hg.symm)
              clear hg h1 hw
              go_wp2_with fail
              refine (HH.out _ (HS.out.next HB.out)).mono ?_
              rintro e w1 ⟨rfl, hb1⟩
              have HB1 := Lib.hid (HB.out.trans (hb1.mono HB.out.size))
              clear hb1
              go_wp2_with fail
              go_ret
              exact ⟨ret_int HA.out.symm, HB1.out⟩
            · rw [if_neg h1] at hg
              have HG := Lib.hid hg
              have hb0 : (k - 1 == 0) = false := by simpa using h1
              clear hg h1
              go_wp2_with fail
              refine (HH.out _ (HS.out.next HB.out)).mono ?_
              rintro e w1 ⟨rfl, hb1⟩
              have HB1 := Lib.hid (HB.out.trans (hb1.mono HB.out.size))
              clear hb1
              go_wp2_with fail
              clear hw
              go_roundw
              case rel => exact ⟨a + 1, k - 1, by omega, by simp at hb0; omega, by omega, by go_num, rfl, HG.out, HB1.out⟩
              case measure => simp [intOf]; omega
        · have hd1 : decide ((a : Int) ≤ col) = true := by simp; omega
          have hf : (decide (col < (a : Int)) && h a) = false := by simp; omega
          rw [if_neg (by rw [hf]; simp)] at hg
          have HG := Lib.hid hg
          clear hg hr hf
          go_wp2_with fail
          go_roundw
          case rel => exact ⟨a + 1, k, by omega, hk1, hk0, by go_num, rfl, HG.out, HB.out⟩
          case measure => simp [intOf]; omega
      · obtain rfl : a = n := by omega
        rw [Nat.sub_self] at hg
        have HA := Lib.hid (HN2.out hg.symm)
        clear hg
        have c0' := (HS.out.next HB.out).cols.1
        go_wp2_with fail
        refine (HNe.out _ _ (HS.out.next HB.out)).mono ?_
        rintro e w1 ⟨rfl, hb1⟩
        have HB1 := Lib.hid (HB.out.trans (hb1.mono HB.out.size))
        clear hb1
        go_wp2_with fail
        go_ret
        exact ⟨ret_int HA.out.symm, HB1.out⟩
end Go.Proofs.YtnfdgioapbkonaaDoor

/-
  The walk of a code's glyph.
-/
import Derived.Test.YtandfpghjbbalaaDoorChsC
namespace Go.Proofs.YtandfpghjbbalaaDoor
open Go Go.RowKit

theorem and_bits : ∀ n : Nat, n < 256 → bits .andNot .u8 (n : Int) 128 = ((n % 128 : Nat) : Int) := by decide +kernel
theorem run_len : ∀ k, k < 18 → (runP k).length ≤ 1000 := by decide +kernel
set_option maxRecDepth 100000 in
set_option maxHeartbeats 4000000 in
theorem glyph_any (x : Int) (n : Nat) (hn : n < 256) (w : World) (ht : Faces w) :
    Calls Tryd.prog 13 #[.int .i64 x, .int .u8 n] w fun e w' => e = .returned (.int .i32 (gP (setN x) (n % 128))) ∧ Below w.heap.size w w' := by
  have hand := and_bits n hn
  have hm : n % 128 < 128 := Nat.mod_lt _ (by omega)
  have hk : setN x < 18 := by unfold setN; split <;> omega
  have HH := Lib.hid (fun W t => has_any x (n % 128) hm W t)
  have HF := Lib.hid (fun W t => faceOf_any x W t)
  have HT := Lib.hid ht
  have HG : Hid (gP (setN x) (n % 128) = if hasP (setN x) (n % 128) = false then 0 else if (n % 128) = 32 ∧ wideP (setN x) = false then 32 else if 0 ≤ idxP (setN x) (n % 128) then (runP (setN x)).getD (idxP (setN x) (n % 128)).toNat 0 else ((n % 128 : Nat) : Int) + aboP (setN x)) := Lib.hid rfl
  have hidx := idx_lt (setN x) hk (n % 128) hm
  have HO : Hid (1 ≤ setN x → ∀ W, Calls Tryd.prog 43 #[.int .i64 x] W fun e w' => e = .returned (.tuple #[.string (codP (setN x)), .string (glyP (setN x))]) ∧ W = w') := Lib.hid (fun h1 W => by
    have hx : 1 ≤ x ∧ x ≤ 17 := by unfold setN at h1; split at h1 <;> first | assumption | omega
    obtain ⟨e, _, h3⟩ := setN_in x hx
    have := own_any (setN x) h1 h3 W
    rwa [e] at this)
  have HX : Hid (∀ W, Calls Tryd.prog 44 #[.string (codP (setN x)), .int .u8 ((n % 128 : Nat) : Int)] W fun e w' => e = .returned (.int .i64 (idxP (setN x) (n % 128))) ∧ W = w') := Lib.hid (fun W => strIndexByte_any _ _ W)
  have HN : Hid (∀ (j : Nat), j < (runP (setN x)).length → ∀ W, Calls Tryd.prog 45 #[.string (glyP (setN x)), .int .i64 j] W fun e w' => e = .returned (.int .i32 ((runP (setN x)).getD j 0)) ∧ Below W.heap.size W w') := Lib.hid (fun j hj W => by
    have := nth_any _ _ (runs_all (setN x) hk) j hj (run_len _ hk) W
    rwa [List.getD_eq_getElem?_getD, List.getElem?_eq_getElem hj])
  have hab : 0 ≤ aboP (setN x) ∧ aboP (setN x) ≤ 128 := by unfold aboP; split <;> omega
  have hset : hasP (setN x) (n % 128) = true → 1 ≤ setN x := fun h => by unfold hasP at h; simp at h; exact h.1
  unfold faceV at HF
  generalize gP (setN x) (n % 128) = g at *
  generalize n % 128 = m at *
  generalize hasP (setN x) m = hs at *
  generalize wideP (setN x) = wd at *
  generalize nmP (setN x) = nm at *
  generalize idsP (setN x) = ids at *
  generalize aboP (setN x) = ab at *
  generalize idxP (setN x) m = ix at *
  generalize codP (setN x) = cod at *
  generalize glyP (setN x) = gly at *
  generalize runP (setN x) = L at *
  cases hs with
  | false =>
    have hg := HG.out
    rw [if_pos rfl] at hg
    subst hg
    clear HG HO HX HN hab hset hidx hn
    go_enter Tryd.func13, Tryd.ntmps13
    go_wp2_with fail
    refine (HH.out _ HT.out).mono ?_
    rintro e w1 ⟨rfl, hb1⟩
    have HB := Lib.hid hb1
    clear hb1
    go_wp2_with fail
    go_ret
    exact ⟨rfl, HB.out⟩
  | true =>
    have hO := Lib.hid (HO.out (hset rfl))
    clear HO hset
    have hgc : (m = 32 ∧ wd = false ∧ g = 32) ∨ (m = 32 ∧ wd = true ∧ (g = if 0 ≤ ix then L.getD ix.toNat 0 else (m : Int) + ab)) ∨ (m ≠ 32 ∧ (g = if 0 ≤ ix then L.getD ix.toNat 0 else (m : Int) + ab)) := by
      have hg := HG.out
      rw [if_neg (by simp)] at hg
      by_cases h32 : m = 32
      · cases wd with
        | false => rw [if_pos ⟨h32, rfl⟩] at hg; exact .inl ⟨h32, rfl, hg⟩
        | true => rw [if_neg (by simp)] at hg; exact .inr (.inl ⟨h32, rfl, hg⟩)
      · rw [if_neg (fun h => h32 h.1)] at hg; exact .inr (.inr ⟨h32, hg⟩)
    have hgi : ∀ g', (g' = if 0 ≤ ix then L.getD ix.toNat 0 else (m : Int) + ab) → (∃ j : Nat, ix = j ∧ j < L.length ∧ g' = L.getD j 0 ∧ decide (0 ≤ ix) = true) ∨ (decide (0 ≤ ix) = false ∧ g' = (m : Int) + ab) := by
      intro g' h
      by_cases h0 : 0 ≤ ix
      · rw [if_pos h0] at h
        exact .inl ⟨ix.toNat, by omega, by omega, h, decide_eq_true h0⟩
      · rw [if_neg h0] at h
        exact .inr ⟨decide_eq_false h0, h⟩
    clear HG
    have hw1 : IntKind.i32.wrap (m : Int) = m := by have : (m : Int) = ((m : Nat) : Int) := rfl; simp [IntKind.wrap, IntKind.signed, IntKind.bits]; omega
    have hw2 : IntKind.i32.wrap ((m : Int) + ab) = (m : Int) + ab := by simp [IntKind.wrap, IntKind.signed, IntKind.bits]; omega
    have HW1 := Lib.hid hw1; have HW2 := Lib.hid hw2
    clear hw1 hw2
    rcases hgc with ⟨rfl, rfl, rfl⟩ | ⟨rfl, rfl, hg⟩ | ⟨h32, hg⟩
    · clear hgi HX HN hO
      go_enter Tryd.func13, Tryd.ntmps13
      go_wp2_with fail
      refine (HH.out _ HT.out).mono ?_
      rintro e w1 ⟨rfl, hb1⟩
      have HB := Lib.hid hb1; have HT1 := Lib.hid (HT.out.next hb1)
      clear hb1
      go_wp2_with fail
      refine (HF.out _ HT1.out).mono ?_
      rintro e w2 ⟨rfl, hb2⟩
      have HB2 := Lib.hid (HB.out.trans (hb2.mono HB.out.size))
      clear hb2
      go_wp2_with fail
      go_ret
      exact ⟨rfl, HB2.out.alloc HB2.out.size _⟩
    · rcases hgi _ hg with ⟨j, rfl, hj, rfl, h0⟩ | ⟨h0, rfl⟩
      · clear hgi hg
        have hNj := Lib.hid (HN.out j hj)
        clear HN
        generalize L.getD j 0 = z at *
        go_enter Tryd.func13, Tryd.ntmps13
        go_wp2_with fail
        refine (HH.out _ HT.out).mono ?_
        rintro e w1 ⟨rfl, hb1⟩
        have HB := Lib.hid hb1; have HT1 := Lib.hid (HT.out.next hb1)
        clear hb1
        go_wp2_with fail
        refine (HF.out _ HT1.out).mono ?_
        rintro e w2 ⟨rfl, hb2⟩
        have HB2 := Lib.hid (HB.out.trans (hb2.mono HB.out.size))
        have HB3 : Hid (∀ o, Below w.heap.size w (w2.alloc o)) := Lib.hid (fun o => HB2.out.alloc HB2.out.size o)
        clear hb2
        go_wp2_with fail
        refine (hO.out _).mono ?_
        rintro e w3 ⟨rfl, rfl⟩
        go_wp2_with fail
        refine (HX.out _).mono ?_
        rintro e w3 ⟨rfl, rfl⟩
        go_wp2_with fail
        refine (hNj.out _).mono ?_
        rintro e w4 ⟨rfl, hb4⟩
        have HB4 := Lib.hid ((HB3.out _).trans (hb4.mono (HB3.out _).size))
        clear hb4
        go_wp2_with fail
        go_ret
        exact ⟨rfl, HB4.out⟩
      · clear hgi HN hg
        go_enter Tryd.func13, Tryd.ntmps13
        go_wp2_with fail
        refine (HH.out _ HT.out).mono ?_
        rintro e w1 ⟨rfl, hb1⟩
        have HB := Lib.hid hb1; have HT1 := Lib.hid (HT.out.next hb1)
        clear hb1
        go_wp2_with fail
        refine (HF.out _ HT1.out).mono ?_
        rintro e w2 ⟨rfl, hb2⟩
        have HB2 := Lib.hid (HB.out.trans (hb2.mono HB.out.size))
        have HB3 : Hid (∀ o, Below w.heap.size w (w2.alloc o)) := Lib.hid (fun o => HB2.out.alloc HB2.out.size o)
        clear hb2
        go_wp2_with fail
        refine (hO.out _).mono ?_
        rintro e w3 ⟨rfl, rfl⟩
        go_wp2_with fail
        refine (HX.out _).mono ?_
        rintro e w3 ⟨rfl, rfl⟩
        have hw1 := HW1.out
        have hw2 := HW2.out
        go_wp2_with fail
        go_ret
        exact ⟨rfl, HB3.out _⟩
    · rcases hgi _ hg with ⟨j, rfl, hj, rfl, h0⟩ | ⟨h0, rfl⟩
      · clear hgi hg
        have hNj := Lib.hid (HN.out j hj)
        clear HN
        generalize L.getD j 0 = z at *
        have g3 : ((m : Int) == 32) = false := by rw [beq_eq_false_iff_ne]; omega
        go_enter Tryd.func13, Tryd.ntmps13
        go_wp2_with fail
        refine (HH.out _ HT.out).mono ?_
        rintro e w1 ⟨rfl, hb1⟩
        have HB := Lib.hid hb1; have HT1 := Lib.hid (HT.out.next hb1)
        clear hb1
        go_wp2_with fail
        refine (HF.out _ HT1.out).mono ?_
        rintro e w2 ⟨rfl, hb2⟩
        have HB2 := Lib.hid (HB.out.trans (hb2.mono HB.out.size))
        have HB3 : Hid (∀ o, Below w.heap.size w (w2.alloc o)) := Lib.hid (fun o => HB2.out.alloc HB2.out.size o)
        clear hb2
        go_wp2_with fail
        refine (hO.out _).mono ?_
        rintro e w3 ⟨rfl, rfl⟩
        go_wp2_with fail
        refine (HX.out _).mono ?_
        rintro e w3 ⟨rfl, rfl⟩
        go_wp2_with fail
        refine (hNj.out _).mono ?_
        rintro e w4 ⟨rfl, hb4⟩
        have HB4 := Lib.hid ((HB3.out _).trans (hb4.mono (HB3.out _).size))
        clear hb4
        go_wp2_with fail
        go_ret
        exact ⟨rfl, HB4.out⟩
      · clear hgi HN hg
        have g3 : ((m : Int) == 32) = false := by rw [beq_eq_false_iff_ne]; omega
        clear hidx hm hn h32 hk
        generalize (m : Int) = y at *
        go_enter Tryd.func13, Tryd.ntmps13
        go_wp2_with fail
        refine (HH.out _ HT.out).mono ?_
        rintro e w1 ⟨rfl, hb1⟩
        have HB := Lib.hid hb1; have HT1 := Lib.hid (HT.out.next hb1)
        clear hb1
        go_wp2_with fail
        refine (HF.out _ HT1.out).mono ?_
        rintro e w2 ⟨rfl, hb2⟩
        have HB2 := Lib.hid (HB.out.trans (hb2.mono HB.out.size))
        have HB3 : Hid (∀ o, Below w.heap.size w (w2.alloc o)) := Lib.hid (fun o => HB2.out.alloc HB2.out.size o)
        clear hb2
        go_wp2_with fail
        refine (hO.out _).mono ?_
        rintro e w3 ⟨rfl, rfl⟩
        go_wp2_with fail
        refine (HX.out _).mono ?_
        rintro e w3 ⟨rfl, rfl⟩
        have hw1 := HW1.out
        have hw2 := HW2.out
        go_wp2_with fail
        go_ret
        exact ⟨rfl, HB3.out _⟩
end Go.Proofs.YtandfpghjbbalaaDoor

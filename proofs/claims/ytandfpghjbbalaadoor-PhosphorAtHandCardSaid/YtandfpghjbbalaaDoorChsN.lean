/-
  The walks of the first set that fits, and of the set of an id.
-/
import Derived.Test.YtandfpghjbbalaaDoorChsM
namespace Go.Proofs.YtandfpghjbbalaaDoor
open Go Go.RowKit

/-- The first set that fits, or none. -/
def fndP (f : Nat → Bool) : Nat := ((List.range' 1 17).find? f).getD 0
theorem find_go (f : Nat → Bool) : ∀ r a, ((∀ j, a ≤ j → j < a + r → f j = false) → (List.range' a r).find? f = none) ∧ (∀ n, a ≤ n → n < a + r → f n = true → (∀ j, a ≤ j → j < n → f j = false) → (List.range' a r).find? f = some n) := by
  intro r
  induction r with
  | zero => intro a; exact ⟨fun _ => rfl, fun n h1 h2 => by omega⟩
  | succ r ih =>
    intro a
    rw [List.range'_succ]
    refine ⟨fun h => ?_, fun n h1 h2 h3 h4 => ?_⟩
    · rw [List.find?_cons_of_neg (by rw [h a (by omega) (by omega)]; simp)]
      exact (ih (a + 1)).1 (fun j h1 h2 => h j (by omega) (by omega))
    · by_cases e : n = a
      · subst e; rw [List.find?_cons_of_pos h3]
      · rw [List.find?_cons_of_neg (by rw [h4 a (by omega) (by omega)]; simp)]
        exact (ih (a + 1)).2 n (by omega) (by omega) h3 (fun j h1 h2 => h4 j (by omega) h2)
theorem fnd_none (f : Nat → Bool) (h : ∀ j, 1 ≤ j → j ≤ 17 → f j = false) : fndP f = 0 := by
  unfold fndP; rw [(find_go f 17 1).1 (fun j h1 h2 => h j h1 (by omega))]; rfl
theorem fnd_some (f : Nat → Bool) (n : Nat) (h1 : 1 ≤ n) (h2 : n ≤ 17) (h3 : f n = true) (h4 : ∀ j, 1 ≤ j → j < n → f j = false) : fndP f = n := by
  unfold fndP; rw [(find_go f 17 1).2 n h1 (by omega) h3 h4]; rfl
theorem setN_nat (k : Nat) (h : 1 ≤ k ∧ k ≤ 17) : setN (k : Int) = k := by unfold setN; rw [if_pos (by omega)]; omega
set_option maxRecDepth 100000 in
set_option maxHeartbeats 2000000 in
theorem firstSet_any (wide : Bool) (id : ByteArray) (w : World) (ht : Faces w) (hs : Blanks w) :
    Calls Tryd.prog 50 #[.func (.func 51) #[wishV wide id] #[]] w fun e w' => e = .returned (.tuple #[.int .i64 (fndP (metP wide id)), .bool (fndP (metP wide id) != 0)]) ∧ Below w.heap.size w w' := by
  have HM : Hid (∀ (k : Nat), 1 ≤ k → k ≤ 17 → ∀ W, Faces W → Blanks W → Calls Tryd.prog 51 #[wishV wide id, .int .i64 k] W fun e w' => e = .returned (.bool (metP wide id k)) ∧ Below W.heap.size W w') := Lib.hid (fun k h1 h2 W t s => by
    have := met_any wide id k W t s
    rwa [setN_nat k ⟨h1, h2⟩] at this)
  have HI : Hid (∀ (k : Nat) W, Calls Tryd.prog 61 #[.int .i64 k] W fun e w' => e = .returned (.bool (decide (1 ≤ setN k))) ∧ W = w') := Lib.hid (fun k W => isSet_any k W)
  have hE : ∀ args W, (callFunc 51 args).run Tryd.prog W = .ok (.enter 51 args) W := Tryd.call51
  have HN := Lib.hid (fnd_none (metP wide id)); have HS := Lib.hid (fnd_some (metP wide id))
  generalize metP wide id = f at *
  generalize fndP f = n at *
  have HT := Lib.hid ht; have HB := Lib.hid hs
  clear ht hs
  go_enter Tryd.func50, Tryd.ntmps50
  go_wp2_with fail
  go_loopw [4] (fun i wr => ∃ k : Nat, 1 ≤ k ∧ k ≤ 18 ∧ i = .int .i64 k ∧ Faces wr ∧ Blanks wr ∧ Below w.heap.size w wr ∧ ∀ j, 1 ≤ j → j < k → f j = false) (fun i _ => 18 - (intOf i).toNat)
  case atStart => exact ⟨1, by omega, by omega, rfl, HT.out, HB.out, Below.refl _ _, fun j h1 h2 => by omega⟩
  case round =>
    obtain ⟨k, hk1, hk2, rfl, ht, hs, hb, hno⟩ := hrel
    have HT1 := Lib.hid ht; have HS1 := Lib.hid hs; have HB1 := Lib.hid hb; have HNo := Lib.hid hno
    have HIk := Lib.hid (HI.out k)
    clear ht hs hb hno
    by_cases hlt : k < 18
    · have e : setN (k : Int) = k := setN_nat k (by omega)
      rw [e, decide_eq_true hk1] at HIk
      have HMk := Lib.hid (HM.out k hk1 (by omega))
      have hw : IntKind.i64.wrap ((k : Int) + 1) = (k : Int) + 1 := IntWalk.i64_in _ (by omega)
      rcases hf : f k with _ | _
      · rw [hf] at HMk
        have HNo2 : Hid (∀ j, 1 ≤ j → j < k + 1 → f j = false) := Lib.hid (fun j h1 h2 => by
          by_cases ej : j = k
          · rw [ej]; exact hf
          · exact HNo.out j h1 (by omega))
        clear hf e
        go_wp2_with fail
        refine (HIk.out _).mono ?_
        rintro e w1 ⟨rfl, rfl⟩
        go_wp2_with fail
        refine (HMk.out _ HT1.out HS1.out).mono ?_
        rintro e w1 ⟨rfl, hb1⟩
        have HT2 := Lib.hid (HT1.out.next hb1); have HS2 := Lib.hid (HS1.out.next hb1); have HB2 := Lib.hid (HB1.out.trans (hb1.mono HB1.out.size))
        clear hb1
        go_wp2_with fail
        go_roundw
        case rel => exact ⟨k + 1, by omega, by omega, by first | rfl | go_num, HT2.out, HS2.out, HB2.out, HNo2.out⟩
        case measure => simp [intOf]; omega
      · rw [hf] at HMk
        have HR := Lib.hid (HS.out k hk1 (by omega) hf HNo.out)
        have hk0 : (k != 0) = true := by simp; omega
        clear hf e
        go_wp2_with fail
        refine (HIk.out _).mono ?_
        rintro e w1 ⟨rfl, rfl⟩
        go_wp2_with fail
        refine (HMk.out _ HT1.out HS1.out).mono ?_
        rintro e w1 ⟨rfl, hb1⟩
        have HB2 := Lib.hid (HB1.out.trans (hb1.mono HB1.out.size))
        clear hb1
        go_wp2_with fail
        go_ret2
        exact ⟨by rw [HR.out, hk0]; rfl, HB2.out⟩
    · obtain rfl : k = 18 := by omega
      have e : setN ((18 : Nat) : Int) = 0 := rfl
      rw [e] at HIk
      have HR := Lib.hid (HN.out (fun j h1 h2 => HNo.out j h1 (by omega)))
      clear e
      go_wp2_with fail
      refine (HIk.out _).mono ?_
      rintro e w1 ⟨rfl, rfl⟩
      go_wp2_with fail
      go_ret2
      exact ⟨by rw [HR.out]; rfl, HB1.out⟩
set_option maxHeartbeats 1000000 in
theorem find_any (wide : Bool) (id : ByteArray) (w : World) (ht : Faces w) (hs : Blanks w) :
    Calls Tryd.prog 15 #[.bool wide, .string id] w fun e w' => e = .returned (.tuple #[.int .i64 (fndP (metP wide id)), .bool (fndP (metP wide id) != 0)]) ∧ Below w.heap.size w w' := by
  have HF := Lib.hid (firstSet_any wide id w ht hs)
  unfold wishV at HF
  have hmf : ∀ fn first cap W, (Instr.makeFunc fn first cap).run Tryd.prog W = .ok (.func fn first cap) W := fun _ _ _ _ => rfl
  generalize fndP (metP wide id) = n at *
  go_enter Tryd.func15, Tryd.ntmps15
  go_wp2_with fail
  refine HF.out.mono ?_
  rintro e w1 ⟨rfl, hb1⟩
  have HB := Lib.hid hb1
  clear hb1
  go_wp2_with fail
  go_ret2
  exact ⟨rfl, HB.out⟩
end Go.Proofs.YtandfpghjbbalaaDoor

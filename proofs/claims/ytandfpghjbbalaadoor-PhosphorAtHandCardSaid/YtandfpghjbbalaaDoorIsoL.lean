/-
  States of sets: an id cut from what is told.
-/
import Derived.Test.YtandfpghjbbalaaDoorIsoK
import Derived.Test.YtandfpghjbbalaaDoorMixE
import Derived.Test.YtandfpghjbbalaaDoorIsoJ
namespace Go.Proofs.YtandfpghjbbalaaDoor
open Go Go.RowKit

/-- An id of two letters lies ahead. -/
def pfxB (s : ByteArray) : Bool := if 1 ≤ s.size then (s.extract 0 1).toList == [37] else false
def cutN (s : ByteArray) : Nat := if pfxB s = true then 2 else 1
def cutP (s : ByteArray) : ByteArray × ByteArray := if s.size < cutN s then (⟨#[]⟩, ⟨#[]⟩) else (s.extract 0 (cutN s), s.extract (cutN s) s.size)
set_option maxHeartbeats 2000000 in
theorem pfxS_any (s : ByteArray) (w : World) : Calls Tryd.prog 72 #[.string s, .string ⟨#[37]⟩] w fun e w' => e = .returned (.bool (pfxB s)) ∧ w = w' := by
  unfold pfxB
  have hz : (ByteArray.mk #[37]).size = 1 := rfl
  by_cases h : 1 ≤ s.size
  · rw [if_pos h]
    have g0 : decide ((1 : Int) ≤ (s.size : Int)) = true := by simp; omega
    have g1 : (1 : Int) ≤ (s.size : Int) := by omega
    go_enter Tryd.func72, Tryd.ntmps72
    go_wp2_with fail
    go_ret
    exact ⟨rfl, rfl⟩
  · rw [if_neg h]
    have g0 : decide ((1 : Int) ≤ (s.size : Int)) = false := by simp; omega
    go_enter Tryd.func72, Tryd.ntmps72
    go_wp2_with fail
    go_ret
    exact ⟨rfl, rfl⟩
theorem pfx_any (s : ByteArray) (w : World) : Calls Tryd.prog 66 #[.string s, .string ⟨#[37]⟩] w fun e w' => e = .returned (.bool (pfxB s)) ∧ w = w' := by
  have HP := Lib.hid (fun W => pfxS_any s W)
  go_enter Tryd.func66, Tryd.ntmps66
  go_wp2_with fail
  refine (HP.out _).mono ?_
  rintro e w1 ⟨rfl, rfl⟩
  go_wp2_with fail
  go_ret
  exact ⟨rfl, rfl⟩
def cutV (p : ByteArray × ByteArray) : Value := .tuple #[.string p.1, .string p.2]
set_option maxHeartbeats 4000000 in
theorem cutId_any (s : ByteArray) (w : World) : Calls Tryd.prog 59 #[.string s] w fun e w' => e = .returned (cutV (cutP s)) ∧ Below w.heap.size w w' := by
  have HP := Lib.hid (fun W => pfx_any s W)
  unfold cutV
  rcases hp : pfxB s with _ | _
  · rw [hp] at HP
    have e1 : cutN s = 1 := by unfold cutN; rw [hp]; rfl
    by_cases h : s.size < 1
    · rw [show cutP s = (⟨#[]⟩, ⟨#[]⟩) from by unfold cutP; rw [e1]; exact if_pos h]
      have g0 : decide ((s.size : Int) < 1) = true := by simp; omega
      clear hp h e1
      go_enter Tryd.func59, Tryd.ntmps59
      go_wp2_with fail
      refine (HP.out _).mono ?_
      rintro e w1 ⟨rfl, rfl⟩
      go_wp2_with fail
      exact bodyPost_ret (v := .tuple #[.string ⟨#[]⟩, .string ⟨#[]⟩]) (by simp [results, Tryd.results59, go_sem]) rfl ⟨rfl, Below.refl _ _⟩
    · rw [show cutP s = (s.extract 0 1, s.extract 1 s.size) from by unfold cutP; rw [e1]; exact if_neg h]
      have g0 : decide ((s.size : Int) < 1) = false := by simp; omega
      have g1 : 1 ≤ s.size := by omega
      have g2 : (1 : Int) ≤ (s.size : Int) := by omega
      clear hp h e1
      go_enter Tryd.func59, Tryd.ntmps59
      go_wp2_with fail
      refine (HP.out _).mono ?_
      rintro e w1 ⟨rfl, rfl⟩
      go_wp2_with fail
      refine wp_region_mix_lit (by kernel_rfl) [] (by kernel_rfl) (by kernel_rfl) (by kernel_rfl) (by rfl) (by simp [apartK] <;> omega) (by simp [startK]) (by simp [stabK]) (⟨fun _ => undef, by simp [okK]⟩) (fun β hβ => ?_)
      repeat (
        refine lex_val (v := ?_) rfl rfl (fun w' hf => ?_) ?_
        rotate_left
        · go_simp
          try rfl
        try simp only [Act.put, List.setIfInBounds_toArray, List.set_cons_zero, List.set_cons_succ])
      refine lex_nil fun w' he => ?_
      have HB := Lib.hid (he.only.below0)
      clear he
      go_wp2_with fail
      exact bodyPost_ret (v := .tuple #[.string (s.extract 0 1), .string (s.extract 1 s.size)]) (by simp [results, Tryd.results59, go_sem]) rfl ⟨rfl, HB.out⟩
  · rw [hp] at HP
    have e1 : cutN s = 2 := by unfold cutN; rw [hp]; rfl
    by_cases h : s.size < 2
    · rw [show cutP s = (⟨#[]⟩, ⟨#[]⟩) from by unfold cutP; rw [e1]; exact if_pos h]
      have g0 : decide ((s.size : Int) < 2) = true := by simp; omega
      clear hp h e1
      go_enter Tryd.func59, Tryd.ntmps59
      go_wp2_with fail
      refine (HP.out _).mono ?_
      rintro e w1 ⟨rfl, rfl⟩
      go_wp2_with fail
      exact bodyPost_ret (v := .tuple #[.string ⟨#[]⟩, .string ⟨#[]⟩]) (by simp [results, Tryd.results59, go_sem]) rfl ⟨rfl, Below.refl _ _⟩
    · rw [show cutP s = (s.extract 0 2, s.extract 2 s.size) from by unfold cutP; rw [e1]; exact if_neg h]
      have g0 : decide ((s.size : Int) < 2) = false := by simp; omega
      have g1 : 2 ≤ s.size := by omega
      have g2 : (2 : Int) ≤ (s.size : Int) := by omega
      clear hp h e1
      go_enter Tryd.func59, Tryd.ntmps59
      go_wp2_with fail
      refine (HP.out _).mono ?_
      rintro e w1 ⟨rfl, rfl⟩
      go_wp2_with fail
      refine wp_region_mix_lit (by kernel_rfl) [] (by kernel_rfl) (by kernel_rfl) (by kernel_rfl) (by rfl) (by simp [apartK] <;> omega) (by simp [startK]) (by simp [stabK]) (⟨fun _ => undef, by simp [okK]⟩) (fun β hβ => ?_)
      repeat (
        refine lex_val (v := ?_) rfl rfl (fun w' hf => ?_) ?_
        rotate_left
        · go_simp
          try rfl
        try simp only [Act.put, List.setIfInBounds_toArray, List.set_cons_zero, List.set_cons_succ])
      refine lex_nil fun w' he => ?_
      have HB := Lib.hid (he.only.below0)
      clear he
      go_wp2_with fail
      exact bodyPost_ret (v := .tuple #[.string (s.extract 0 2), .string (s.extract 2 s.size)]) (by simp [results, Tryd.results59, go_sem]) rfl ⟨rfl, HB.out⟩
end Go.Proofs.YtandfpghjbbalaaDoor

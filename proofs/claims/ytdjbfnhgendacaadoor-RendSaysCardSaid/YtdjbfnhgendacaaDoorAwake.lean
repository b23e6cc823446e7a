/-
  The walk of the fixed fact that each statement on renditions asks first.
-/
import Derived.Test.YtdjbfnhgendacaaDoorRendB
import Derived.Test.YtdjbfnhgendacaaDoorRendH
namespace Go.Proofs.YtdjbfnhgendacaaDoor
open Go.RowKit

set_option maxHeartbeats 800000 in
theorem awake_any (w : World) (ht : Tab w) :
    Calls Tryd.prog 15 #[] w fun e w' => e = .returned (.bool true) ∧ Below w.heap.size w w' := by
  have a1 : ∀ (w' : World) (A : Option Addr) (c : Nat), Tab w' → RInts w' A [4, 22] → Calls Tryd.prog 16 #[.int .u8 1, .slice A 2 c] w' fun e w2 => e = .returned (.int .u8 2) ∧ Below w'.heap.size w' w2 := by
    intro w' A c h hr
    have := apply_any 1 (by omega) (by omega) A c [4, 22] (by unfold maxLen; decide) w' h hr
    rwa [show apply 1 [4, 22] = 2 from by decide +kernel] at this
  have a2 : ∀ (w' : World) (A : Option Addr) (c : Nat), Tab w' → RInts w' A [0] → Calls Tryd.prog 19 #[.int .u8 1, .slice A 1 c] w' fun e w2 => e = .returned (.int .u8 14) ∧ Below w'.heap.size w' w2 := by
    intro w' A c h hr
    have := flip_any 1 (by omega) (by omega) A c [0] (by unfold maxLen; decide) w' h hr
    rwa [show flip 1 [0] = 14 from by decide +kernel] at this
  have a3 : ∀ (w' : World), Tab w' → Calls Tryd.prog 25 #[.int .u8 9] w' fun e w2 => e = .returned (.string ⟨#[98, 114]⟩) ∧ Below w'.heap.size w' w2 := by
    intro w' h
    have := letters_any 9 (by omega) (by omega) w' h
    rwa [show letS 9 = ⟨#[98, 114]⟩ from by decide +kernel] at this
  have A1 := Lib.hid a1
  have A2 := Lib.hid a2
  have A3 := Lib.hid a3
  clear a1 a2 a3
  have hb0 : Below w.heap.size w (w.alloc (.cells #[.int .i64 4, .int .i64 22] 3)) := (Below.refl _ _).alloc (Nat.le_refl _) _
  have Hr0 := Lib.hid (rints_new w 3 [4, 22] #[.int .i64 4, .int .i64 22] rfl w.heap.size rfl)
  go_enter Tryd.func15, Tryd.ntmps15
  go_wp2_with (first
    | (go_at_call 16; refine (A1.out _ _ _ (ht.next hb0) Hr0.out).mono ?_; rintro e w1 ⟨rfl, hb1⟩)
    | (go_at_call 19; refine (A2.out _ _ _ (((ht.next hb0).next hb1).next ((Below.refl _ _).alloc (Nat.le_refl _) _)) (rints_new w1 3 [0] #[.int .i64 0] rfl w1.heap.size rfl)).mono ?_; rintro e w2 ⟨rfl, hb2⟩)
    | (go_at_call 25; refine (A3.out _ (((((ht.next hb0).next hb1).next ((Below.refl _ _).alloc (Nat.le_refl _) _))).next hb2)).mono ?_; rintro e w3 ⟨rfl, hb3⟩))
  go_ret
  have s1 := hb1.size
  have s2 := hb2.size
  simp only [World.size_alloc] at s1 s2
  exact ⟨rfl, (((hb0.trans (hb1.mono (by simp))).alloc (by omega) _).trans (hb2.mono (by simp; omega))).trans (hb3.mono (by omega))⟩
end Go.Proofs.YtdjbfnhgendacaaDoor

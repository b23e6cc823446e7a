/-
  The reference's supplemental set.
-/
import Derived.Test.YtandfpghjbbalaaDoorChsF
namespace Go.Proofs.YtandfpghjbbalaaDoor
open Go Go.RowKit

set_option maxHeartbeats 1000000 in
theorem sup_any36 (w : World) : Calls Tryd.prog 48 #[.int .i64 36] w fun e w' => e = .returned (.int .i64 65533) ∧ w = w' := by
  go_enter Tryd.func48, Tryd.ntmps48
  go_wp2_with fail
  go_ret
  exact ⟨rfl, rfl⟩
set_option maxHeartbeats 1000000 in
theorem sup_any38 (w : World) : Calls Tryd.prog 48 #[.int .i64 38] w fun e w' => e = .returned (.int .i64 65533) ∧ w = w' := by
  go_enter Tryd.func48, Tryd.ntmps48
  go_wp2_with fail
  go_ret
  exact ⟨rfl, rfl⟩
set_option maxHeartbeats 1000000 in
theorem sup_any40 (w : World) : Calls Tryd.prog 48 #[.int .i64 40] w fun e w' => e = .returned (.int .i64 164) ∧ w = w' := by
  go_enter Tryd.func48, Tryd.ntmps48
  go_wp2_with fail
  go_ret
  exact ⟨rfl, rfl⟩
set_option maxHeartbeats 1000000 in
theorem sup_any44 (w : World) : Calls Tryd.prog 48 #[.int .i64 44] w fun e w' => e = .returned (.int .i64 65533) ∧ w = w' := by
  go_enter Tryd.func48, Tryd.ntmps48
  go_wp2_with fail
  go_ret
  exact ⟨rfl, rfl⟩
set_option maxHeartbeats 1000000 in
theorem sup_any45 (w : World) : Calls Tryd.prog 48 #[.int .i64 45] w fun e w' => e = .returned (.int .i64 65533) ∧ w = w' := by
  go_enter Tryd.func48, Tryd.ntmps48
  go_wp2_with fail
  go_ret
  exact ⟨rfl, rfl⟩
set_option maxHeartbeats 1000000 in
theorem sup_any46 (w : World) : Calls Tryd.prog 48 #[.int .i64 46] w fun e w' => e = .returned (.int .i64 65533) ∧ w = w' := by
  go_enter Tryd.func48, Tryd.ntmps48
  go_wp2_with fail
  go_ret
  exact ⟨rfl, rfl⟩
set_option maxHeartbeats 1000000 in
theorem sup_any47 (w : World) : Calls Tryd.prog 48 #[.int .i64 47] w fun e w' => e = .returned (.int .i64 65533) ∧ w = w' := by
  go_enter Tryd.func48, Tryd.ntmps48
  go_wp2_with fail
  go_ret
  exact ⟨rfl, rfl⟩
set_option maxHeartbeats 1000000 in
theorem sup_any52 (w : World) : Calls Tryd.prog 48 #[.int .i64 52] w fun e w' => e = .returned (.int .i64 65533) ∧ w = w' := by
  go_enter Tryd.func48, Tryd.ntmps48
  go_wp2_with fail
  go_ret
  exact ⟨rfl, rfl⟩
set_option maxHeartbeats 1000000 in
theorem sup_any56 (w : World) : Calls Tryd.prog 48 #[.int .i64 56] w fun e w' => e = .returned (.int .i64 65533) ∧ w = w' := by
  go_enter Tryd.func48, Tryd.ntmps48
  go_wp2_with fail
  go_ret
  exact ⟨rfl, rfl⟩
set_option maxHeartbeats 1000000 in
theorem sup_any62 (w : World) : Calls Tryd.prog 48 #[.int .i64 62] w fun e w' => e = .returned (.int .i64 65533) ∧ w = w' := by
  go_enter Tryd.func48, Tryd.ntmps48
  go_wp2_with fail
  go_ret
  exact ⟨rfl, rfl⟩
set_option maxHeartbeats 1000000 in
theorem sup_any80 (w : World) : Calls Tryd.prog 48 #[.int .i64 80] w fun e w' => e = .returned (.int .i64 65533) ∧ w = w' := by
  go_enter Tryd.func48, Tryd.ntmps48
  go_wp2_with fail
  go_ret
  exact ⟨rfl, rfl⟩
set_option maxHeartbeats 1000000 in
theorem sup_any87 (w : World) : Calls Tryd.prog 48 #[.int .i64 87] w fun e w' => e = .returned (.int .i64 338) ∧ w = w' := by
  go_enter Tryd.func48, Tryd.ntmps48
  go_wp2_with fail
  go_ret
  exact ⟨rfl, rfl⟩
set_option maxHeartbeats 1000000 in
theorem sup_any93 (w : World) : Calls Tryd.prog 48 #[.int .i64 93] w fun e w' => e = .returned (.int .i64 376) ∧ w = w' := by
  go_enter Tryd.func48, Tryd.ntmps48
  go_wp2_with fail
  go_ret
  exact ⟨rfl, rfl⟩
set_option maxHeartbeats 1000000 in
theorem sup_any94 (w : World) : Calls Tryd.prog 48 #[.int .i64 94] w fun e w' => e = .returned (.int .i64 65533) ∧ w = w' := by
  go_enter Tryd.func48, Tryd.ntmps48
  go_wp2_with fail
  go_ret
  exact ⟨rfl, rfl⟩
set_option maxHeartbeats 1000000 in
theorem sup_any112 (w : World) : Calls Tryd.prog 48 #[.int .i64 112] w fun e w' => e = .returned (.int .i64 65533) ∧ w = w' := by
  go_enter Tryd.func48, Tryd.ntmps48
  go_wp2_with fail
  go_ret
  exact ⟨rfl, rfl⟩
set_option maxHeartbeats 1000000 in
theorem sup_any119 (w : World) : Calls Tryd.prog 48 #[.int .i64 119] w fun e w' => e = .returned (.int .i64 339) ∧ w = w' := by
  go_enter Tryd.func48, Tryd.ntmps48
  go_wp2_with fail
  go_ret
  exact ⟨rfl, rfl⟩
set_option maxHeartbeats 1000000 in
theorem sup_any125 (w : World) : Calls Tryd.prog 48 #[.int .i64 125] w fun e w' => e = .returned (.int .i64 255) ∧ w = w' := by
  go_enter Tryd.func48, Tryd.ntmps48
  go_wp2_with fail
  go_ret
  exact ⟨rfl, rfl⟩
set_option maxHeartbeats 1000000 in
theorem sup_any126 (w : World) : Calls Tryd.prog 48 #[.int .i64 126] w fun e w' => e = .returned (.int .i64 65533) ∧ w = w' := by
  go_enter Tryd.func48, Tryd.ntmps48
  go_wp2_with fail
  go_ret
  exact ⟨rfl, rfl⟩
set_option maxHeartbeats 2000000 in
theorem sup_rest (c : Nat) (h1 : 33 ≤ c) (h2 : c < 127) (hn : ∀ p ∈ supL, c ≠ p.1) (w : World) : Calls Tryd.prog 48 #[.int .i64 c] w fun e w' => e = .returned (.int .i64 ((c : Int) + 128)) ∧ w = w' := by
  have hw : IntKind.i64.wrap ((c : Int) + 128) = (c : Int) + 128 := IntWalk.i64_in _ (by omega)
  have n36 : ((c : Int) == 36) = false := by rw [beq_eq_false_iff_ne]; have := hn (36, 65533) (by decide); simp only at this; omega
  have n38 : ((c : Int) == 38) = false := by rw [beq_eq_false_iff_ne]; have := hn (38, 65533) (by decide); simp only at this; omega
  have n40 : ((c : Int) == 40) = false := by rw [beq_eq_false_iff_ne]; have := hn (40, 164) (by decide); simp only at this; omega
  have n44 : ((c : Int) == 44) = false := by rw [beq_eq_false_iff_ne]; have := hn (44, 65533) (by decide); simp only at this; omega
  have n45 : ((c : Int) == 45) = false := by rw [beq_eq_false_iff_ne]; have := hn (45, 65533) (by decide); simp only at this; omega
  have n46 : ((c : Int) == 46) = false := by rw [beq_eq_false_iff_ne]; have := hn (46, 65533) (by decide); simp only at this; omega
  have n47 : ((c : Int) == 47) = false := by rw [beq_eq_false_iff_ne]; have := hn (47, 65533) (by decide); simp only at this; omega
  have n52 : ((c : Int) == 52) = false := by rw [beq_eq_false_iff_ne]; have := hn (52, 65533) (by decide); simp only at this; omega
  have n56 : ((c : Int) == 56) = false := by rw [beq_eq_false_iff_ne]; have := hn (56, 65533) (by decide); simp only at this; omega
  have n62 : ((c : Int) == 62) = false := by rw [beq_eq_false_iff_ne]; have := hn (62, 65533) (by decide); simp only at this; omega
  have n80 : ((c : Int) == 80) = false := by rw [beq_eq_false_iff_ne]; have := hn (80, 65533) (by decide); simp only at this; omega
  have n87 : ((c : Int) == 87) = false := by rw [beq_eq_false_iff_ne]; have := hn (87, 338) (by decide); simp only at this; omega
  have n93 : ((c : Int) == 93) = false := by rw [beq_eq_false_iff_ne]; have := hn (93, 376) (by decide); simp only at this; omega
  have n94 : ((c : Int) == 94) = false := by rw [beq_eq_false_iff_ne]; have := hn (94, 65533) (by decide); simp only at this; omega
  have n112 : ((c : Int) == 112) = false := by rw [beq_eq_false_iff_ne]; have := hn (112, 65533) (by decide); simp only at this; omega
  have n119 : ((c : Int) == 119) = false := by rw [beq_eq_false_iff_ne]; have := hn (119, 339) (by decide); simp only at this; omega
  have n125 : ((c : Int) == 125) = false := by rw [beq_eq_false_iff_ne]; have := hn (125, 255) (by decide); simp only at this; omega
  have n126 : ((c : Int) == 126) = false := by rw [beq_eq_false_iff_ne]; have := hn (126, 65533) (by decide); simp only at this; omega
  clear hn h1 h2
  generalize (c : Int) = y at *
  go_enter Tryd.func48, Tryd.ntmps48
  go_wp2_with fail
  go_ret
  exact ⟨rfl, rfl⟩
theorem sup_any (c : Nat) (h1 : 33 ≤ c) (h2 : c < 127) (w : World) :
    Calls Tryd.prog 48 #[.int .i64 c] w fun e w' => e = .returned (.int .i64 (gP 4 c)) ∧ w = w' := by
  by_cases hn : ∀ p ∈ supL, c ≠ p.1
  · rw [sup_no c h1 h2 hn]
    exact sup_rest c h1 h2 hn w
  · obtain ⟨p, hp⟩ := Classical.not_forall.1 hn
    obtain ⟨hp, hc⟩ := Classical.not_imp.1 hp
    have hc' : c = p.1 := Classical.not_not.1 hc
    rw [hc', sup_at p hp]
    simp only [supL, List.mem_cons, List.not_mem_nil, or_false] at hp
    rcases hp with rfl | rfl | rfl | rfl | rfl | rfl | rfl | rfl | rfl | rfl | rfl | rfl | rfl | rfl | rfl | rfl | rfl | rfl
    · exact sup_any36 w
    · exact sup_any38 w
    · exact sup_any40 w
    · exact sup_any44 w
    · exact sup_any45 w
    · exact sup_any46 w
    · exact sup_any47 w
    · exact sup_any52 w
    · exact sup_any56 w
    · exact sup_any62 w
    · exact sup_any80 w
    · exact sup_any87 w
    · exact sup_any93 w
    · exact sup_any94 w
    · exact sup_any112 w
    · exact sup_any119 w
    · exact sup_any125 w
    · exact sup_any126 w
end Go.Proofs.YtandfpghjbbalaaDoor

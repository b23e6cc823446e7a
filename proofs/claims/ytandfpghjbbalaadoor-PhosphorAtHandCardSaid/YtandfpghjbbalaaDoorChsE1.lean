/-
  The reference's national sets, code by code.
-/
import Derived.Test.YtandfpghjbbalaaDoorChsE
namespace Go.Proofs.YtandfpghjbbalaaDoor
open Go Go.RowKit

set_option maxRecDepth 100000 in
theorem nat6_35 (w : World) : Calls Tryd.prog 49 #[.int .i64 6, .int .i64 35] w fun e w' => e = .returned (.int .i64 163) ∧ w = w' := by
  go_enter Tryd.func49, Tryd.ntmps49
  go_wp2_with fail
  go_ret
  exact ⟨rfl, rfl⟩
set_option maxRecDepth 100000 in
theorem nat6_rest (c : Nat) (hn : ∀ p ∈ natL 6, c ≠ p.1) (w : World) : Calls Tryd.prog 49 #[.int .i64 6, .int .i64 c] w fun e w' => e = .returned (.int .i64 c) ∧ w = w' := by
  have n35 : ((c : Int) == 35) = false := by rw [beq_eq_false_iff_ne]; have := hn (35, 163) (by decide); simp only at this; omega
  clear hn
  generalize (c : Int) = y at *
  go_enter Tryd.func49, Tryd.ntmps49
  go_wp2_with fail
  go_ret
  exact ⟨rfl, rfl⟩
theorem nation_any6 (c : Nat) (h1 : 32 ≤ c) (h2 : c < 127) (w : World) :
    Calls Tryd.prog 49 #[.int .i64 6, .int .i64 c] w fun e w' => e = .returned (.int .i64 (gP 6 c)) ∧ w = w' := by
  by_cases hn : ∀ p ∈ natL 6, c ≠ p.1
  · rw [nat_out 6 (by decide) (by decide) (by decide) c h2 h1 hn]
    exact nat6_rest c hn w
  · obtain ⟨p, hp⟩ := Classical.not_forall.1 hn
    obtain ⟨hp, hc⟩ := Classical.not_imp.1 hp
    have hc' : c = p.1 := Classical.not_not.1 hc
    rw [hc', nat_in 6 (by decide) (by decide) (by decide) p hp]
    simp only [natL, List.mem_cons, List.not_mem_nil, or_false] at hp
    rcases hp with rfl
    · exact nat6_35 w
set_option maxRecDepth 100000 in
theorem nat7_35 (w : World) : Calls Tryd.prog 49 #[.int .i64 7, .int .i64 35] w fun e w' => e = .returned (.int .i64 163) ∧ w = w' := by
  go_enter Tryd.func49, Tryd.ntmps49
  go_wp2_with fail
  go_ret
  exact ⟨rfl, rfl⟩
set_option maxRecDepth 100000 in
theorem nat7_64 (w : World) : Calls Tryd.prog 49 #[.int .i64 7, .int .i64 64] w fun e w' => e = .returned (.int .i64 190) ∧ w = w' := by
  go_enter Tryd.func49, Tryd.ntmps49
  go_wp2_with fail
  go_ret
  exact ⟨rfl, rfl⟩
set_option maxRecDepth 100000 in
theorem nat7_91 (w : World) : Calls Tryd.prog 49 #[.int .i64 7, .int .i64 91] w fun e w' => e = .returned (.int .i64 307) ∧ w = w' := by
  go_enter Tryd.func49, Tryd.ntmps49
  go_wp2_with fail
  go_ret
  exact ⟨rfl, rfl⟩
set_option maxRecDepth 100000 in
theorem nat7_92 (w : World) : Calls Tryd.prog 49 #[.int .i64 7, .int .i64 92] w fun e w' => e = .returned (.int .i64 189) ∧ w = w' := by
  go_enter Tryd.func49, Tryd.ntmps49
  go_wp2_with fail
  go_ret
  exact ⟨rfl, rfl⟩
set_option maxRecDepth 100000 in
theorem nat7_93 (w : World) : Calls Tryd.prog 49 #[.int .i64 7, .int .i64 93] w fun e w' => e = .returned (.int .i64 124) ∧ w = w' := by
  go_enter Tryd.func49, Tryd.ntmps49
  go_wp2_with fail
  go_ret
  exact ⟨rfl, rfl⟩
set_option maxRecDepth 100000 in
theorem nat7_123 (w : World) : Calls Tryd.prog 49 #[.int .i64 7, .int .i64 123] w fun e w' => e = .returned (.int .i64 168) ∧ w = w' := by
  go_enter Tryd.func49, Tryd.ntmps49
  go_wp2_with fail
  go_ret
  exact ⟨rfl, rfl⟩
set_option maxRecDepth 100000 in
theorem nat7_124 (w : World) : Calls Tryd.prog 49 #[.int .i64 7, .int .i64 124] w fun e w' => e = .returned (.int .i64 402) ∧ w = w' := by
  go_enter Tryd.func49, Tryd.ntmps49
  go_wp2_with fail
  go_ret
  exact ⟨rfl, rfl⟩
set_option maxRecDepth 100000 in
theorem nat7_125 (w : World) : Calls Tryd.prog 49 #[.int .i64 7, .int .i64 125] w fun e w' => e = .returned (.int .i64 188) ∧ w = w' := by
  go_enter Tryd.func49, Tryd.ntmps49
  go_wp2_with fail
  go_ret
  exact ⟨rfl, rfl⟩
set_option maxRecDepth 100000 in
theorem nat7_126 (w : World) : Calls Tryd.prog 49 #[.int .i64 7, .int .i64 126] w fun e w' => e = .returned (.int .i64 180) ∧ w = w' := by
  go_enter Tryd.func49, Tryd.ntmps49
  go_wp2_with fail
  go_ret
  exact ⟨rfl, rfl⟩
set_option maxRecDepth 100000 in
theorem nat7_rest (c : Nat) (hn : ∀ p ∈ natL 7, c ≠ p.1) (w : World) : Calls Tryd.prog 49 #[.int .i64 7, .int .i64 c] w fun e w' => e = .returned (.int .i64 c) ∧ w = w' := by
  have n35 : ((c : Int) == 35) = false := by rw [beq_eq_false_iff_ne]; have := hn (35, 163) (by decide); simp only at this; omega
  have n64 : ((c : Int) == 64) = false := by rw [beq_eq_false_iff_ne]; have := hn (64, 190) (by decide); simp only at this; omega
  have n91 : ((c : Int) == 91) = false := by rw [beq_eq_false_iff_ne]; have := hn (91, 307) (by decide); simp only at this; omega
  have n92 : ((c : Int) == 92) = false := by rw [beq_eq_false_iff_ne]; have := hn (92, 189) (by decide); simp only at this; omega
  have n93 : ((c : Int) == 93) = false := by rw [beq_eq_false_iff_ne]; have := hn (93, 124) (by decide); simp only at this; omega
  have n123 : ((c : Int) == 123) = false := by rw [beq_eq_false_iff_ne]; have := hn (123, 168) (by decide); simp only at this; omega
  have n124 : ((c : Int) == 124) = false := by rw [beq_eq_false_iff_ne]; have := hn (124, 402) (by decide); simp only at this; omega
  have n125 : ((c : Int) == 125) = false := by rw [beq_eq_false_iff_ne]; have := hn (125, 188) (by decide); simp only at this; omega
  have n126 : ((c : Int) == 126) = false := by rw [beq_eq_false_iff_ne]; have := hn (126, 180) (by decide); simp only at this; omega
  clear hn
  generalize (c : Int) = y at *
  go_enter Tryd.func49, Tryd.ntmps49
  go_wp2_with fail
  go_ret
  exact ⟨rfl, rfl⟩
theorem nation_any7 (c : Nat) (h1 : 32 ≤ c) (h2 : c < 127) (w : World) :
    Calls Tryd.prog 49 #[.int .i64 7, .int .i64 c] w fun e w' => e = .returned (.int .i64 (gP 7 c)) ∧ w = w' := by
  by_cases hn : ∀ p ∈ natL 7, c ≠ p.1
  · rw [nat_out 7 (by decide) (by decide) (by decide) c h2 h1 hn]
    exact nat7_rest c hn w
  · obtain ⟨p, hp⟩ := Classical.not_forall.1 hn
    obtain ⟨hp, hc⟩ := Classical.not_imp.1 hp
    have hc' : c = p.1 := Classical.not_not.1 hc
    rw [hc', nat_in 7 (by decide) (by decide) (by decide) p hp]
    simp only [natL, List.mem_cons, List.not_mem_nil, or_false] at hp
    rcases hp with rfl | rfl | rfl | rfl | rfl | rfl | rfl | rfl | rfl
    · exact nat7_35 w
    · exact nat7_64 w
    · exact nat7_91 w
    · exact nat7_92 w
    · exact nat7_93 w
    · exact nat7_123 w
    · exact nat7_124 w
    · exact nat7_125 w
    · exact nat7_126 w
set_option maxRecDepth 100000 in
theorem nat8_91 (w : World) : Calls Tryd.prog 49 #[.int .i64 8, .int .i64 91] w fun e w' => e = .returned (.int .i64 196) ∧ w = w' := by
  go_enter Tryd.func49, Tryd.ntmps49
  go_wp2_with fail
  go_ret
  exact ⟨rfl, rfl⟩
set_option maxRecDepth 100000 in
theorem nat8_92 (w : World) : Calls Tryd.prog 49 #[.int .i64 8, .int .i64 92] w fun e w' => e = .returned (.int .i64 214) ∧ w = w' := by
  go_enter Tryd.func49, Tryd.ntmps49
  go_wp2_with fail
  go_ret
  exact ⟨rfl, rfl⟩
set_option maxRecDepth 100000 in
theorem nat8_93 (w : World) : Calls Tryd.prog 49 #[.int .i64 8, .int .i64 93] w fun e w' => e = .returned (.int .i64 197) ∧ w = w' := by
  go_enter Tryd.func49, Tryd.ntmps49
  go_wp2_with fail
  go_ret
  exact ⟨rfl, rfl⟩
set_option maxRecDepth 100000 in
theorem nat8_94 (w : World) : Calls Tryd.prog 49 #[.int .i64 8, .int .i64 94] w fun e w' => e = .returned (.int .i64 220) ∧ w = w' := by
  go_enter Tryd.func49, Tryd.ntmps49
  go_wp2_with fail
  go_ret
  exact ⟨rfl, rfl⟩
set_option maxRecDepth 100000 in
theorem nat8_96 (w : World) : Calls Tryd.prog 49 #[.int .i64 8, .int .i64 96] w fun e w' => e = .returned (.int .i64 233) ∧ w = w' := by
  go_enter Tryd.func49, Tryd.ntmps49
  go_wp2_with fail
  go_ret
  exact ⟨rfl, rfl⟩
set_option maxRecDepth 100000 in
theorem nat8_123 (w : World) : Calls Tryd.prog 49 #[.int .i64 8, .int .i64 123] w fun e w' => e = .returned (.int .i64 228) ∧ w = w' := by
  go_enter Tryd.func49, Tryd.ntmps49
  go_wp2_with fail
  go_ret
  exact ⟨rfl, rfl⟩
set_option maxRecDepth 100000 in
theorem nat8_124 (w : World) : Calls Tryd.prog 49 #[.int .i64 8, .int .i64 124] w fun e w' => e = .returned (.int .i64 246) ∧ w = w' := by
  go_enter Tryd.func49, Tryd.ntmps49
  go_wp2_with fail
  go_ret
  exact ⟨rfl, rfl⟩
set_option maxRecDepth 100000 in
theorem nat8_125 (w : World) : Calls Tryd.prog 49 #[.int .i64 8, .int .i64 125] w fun e w' => e = .returned (.int .i64 229) ∧ w = w' := by
  go_enter Tryd.func49, Tryd.ntmps49
  go_wp2_with fail
  go_ret
  exact ⟨rfl, rfl⟩
set_option maxRecDepth 100000 in
theorem nat8_126 (w : World) : Calls Tryd.prog 49 #[.int .i64 8, .int .i64 126] w fun e w' => e = .returned (.int .i64 252) ∧ w = w' := by
  go_enter Tryd.func49, Tryd.ntmps49
  go_wp2_with fail
  go_ret
  exact ⟨rfl, rfl⟩
set_option maxRecDepth 100000 in
theorem nat8_rest (c : Nat) (hn : ∀ p ∈ natL 8, c ≠ p.1) (w : World) : Calls Tryd.prog 49 #[.int .i64 8, .int .i64 c] w fun e w' => e = .returned (.int .i64 c) ∧ w = w' := by
  have n91 : ((c : Int) == 91) = false := by rw [beq_eq_false_iff_ne]; have := hn (91, 196) (by decide); simp only at this; omega
  have n92 : ((c : Int) == 92) = false := by rw [beq_eq_false_iff_ne]; have := hn (92, 214) (by decide); simp only at this; omega
  have n93 : ((c : Int) == 93) = false := by rw [beq_eq_false_iff_ne]; have := hn (93, 197) (by decide); simp only at this; omega
  have n94 : ((c : Int) == 94) = false := by rw [beq_eq_false_iff_ne]; have := hn (94, 220) (by decide); simp only at this; omega
  have n96 : ((c : Int) == 96) = false := by rw [beq_eq_false_iff_ne]; have := hn (96, 233) (by decide); simp only at this; omega
  have n123 : ((c : Int) == 123) = false := by rw [beq_eq_false_iff_ne]; have := hn (123, 228) (by decide); simp only at this; omega
  have n124 : ((c : Int) == 124) = false := by rw [beq_eq_false_iff_ne]; have := hn (124, 246) (by decide); simp only at this; omega
  have n125 : ((c : Int) == 125) = false := by rw [beq_eq_false_iff_ne]; have := hn (125, 229) (by decide); simp only at this; omega
  have n126 : ((c : Int) == 126) = false := by rw [beq_eq_false_iff_ne]; have := hn (126, 252) (by decide); simp only at this; omega
  clear hn
  generalize (c : Int) = y at *
  go_enter Tryd.func49, Tryd.ntmps49
  go_wp2_with fail
  go_ret
  exact ⟨rfl, rfl⟩
theorem nation_any8 (c : Nat) (h1 : 32 ≤ c) (h2 : c < 127) (w : World) :
    Calls Tryd.prog 49 #[.int .i64 8, .int .i64 c] w fun e w' => e = .returned (.int .i64 (gP 8 c)) ∧ w = w' := by
  by_cases hn : ∀ p ∈ natL 8, c ≠ p.1
  · rw [nat_out 8 (by decide) (by decide) (by decide) c h2 h1 hn]
    exact nat8_rest c hn w
  · obtain ⟨p, hp⟩ := Classical.not_forall.1 hn
    obtain ⟨hp, hc⟩ := Classical.not_imp.1 hp
    have hc' : c = p.1 := Classical.not_not.1 hc
    rw [hc', nat_in 8 (by decide) (by decide) (by decide) p hp]
    simp only [natL, List.mem_cons, List.not_mem_nil, or_false] at hp
    rcases hp with rfl | rfl | rfl | rfl | rfl | rfl | rfl | rfl | rfl
    · exact nat8_91 w
    · exact nat8_92 w
    · exact nat8_93 w
    · exact nat8_94 w
    · exact nat8_96 w
    · exact nat8_123 w
    · exact nat8_124 w
    · exact nat8_125 w
    · exact nat8_126 w
set_option maxRecDepth 100000 in
theorem nat9_35 (w : World) : Calls Tryd.prog 49 #[.int .i64 9, .int .i64 35] w fun e w' => e = .returned (.int .i64 163) ∧ w = w' := by
  go_enter Tryd.func49, Tryd.ntmps49
  go_wp2_with fail
  go_ret
  exact ⟨rfl, rfl⟩
set_option maxRecDepth 100000 in
theorem nat9_64 (w : World) : Calls Tryd.prog 49 #[.int .i64 9, .int .i64 64] w fun e w' => e = .returned (.int .i64 224) ∧ w = w' := by
  go_enter Tryd.func49, Tryd.ntmps49
  go_wp2_with fail
  go_ret
  exact ⟨rfl, rfl⟩
set_option maxRecDepth 100000 in
theorem nat9_91 (w : World) : Calls Tryd.prog 49 #[.int .i64 9, .int .i64 91] w fun e w' => e = .returned (.int .i64 176) ∧ w = w' := by
  go_enter Tryd.func49, Tryd.ntmps49
  go_wp2_with fail
  go_ret
  exact ⟨rfl, rfl⟩
set_option maxRecDepth 100000 in
theorem nat9_92 (w : World) : Calls Tryd.prog 49 #[.int .i64 9, .int .i64 92] w fun e w' => e = .returned (.int .i64 231) ∧ w = w' := by
  go_enter Tryd.func49, Tryd.ntmps49
  go_wp2_with fail
  go_ret
  exact ⟨rfl, rfl⟩
set_option maxRecDepth 100000 in
theorem nat9_93 (w : World) : Calls Tryd.prog 49 #[.int .i64 9, .int .i64 93] w fun e w' => e = .returned (.int .i64 167) ∧ w = w' := by
  go_enter Tryd.func49, Tryd.ntmps49
  go_wp2_with fail
  go_ret
  exact ⟨rfl, rfl⟩
set_option maxRecDepth 100000 in
theorem nat9_123 (w : World) : Calls Tryd.prog 49 #[.int .i64 9, .int .i64 123] w fun e w' => e = .returned (.int .i64 233) ∧ w = w' := by
  go_enter Tryd.func49, Tryd.ntmps49
  go_wp2_with fail
  go_ret
  exact ⟨rfl, rfl⟩
set_option maxRecDepth 100000 in
theorem nat9_124 (w : World) : Calls Tryd.prog 49 #[.int .i64 9, .int .i64 124] w fun e w' => e = .returned (.int .i64 249) ∧ w = w' := by
  go_enter Tryd.func49, Tryd.ntmps49
  go_wp2_with fail
  go_ret
  exact ⟨rfl, rfl⟩
set_option maxRecDepth 100000 in
theorem nat9_125 (w : World) : Calls Tryd.prog 49 #[.int .i64 9, .int .i64 125] w fun e w' => e = .returned (.int .i64 232) ∧ w = w' := by
  go_enter Tryd.func49, Tryd.ntmps49
  go_wp2_with fail
  go_ret
  exact ⟨rfl, rfl⟩
set_option maxRecDepth 100000 in
theorem nat9_126 (w : World) : Calls Tryd.prog 49 #[.int .i64 9, .int .i64 126] w fun e w' => e = .returned (.int .i64 168) ∧ w = w' := by
  go_enter Tryd.func49, Tryd.ntmps49
  go_wp2_with fail
  go_ret
  exact ⟨rfl, rfl⟩
set_option maxRecDepth 100000 in
theorem nat9_rest (c : Nat) (hn : ∀ p ∈ natL 9, c ≠ p.1) (w : World) : Calls Tryd.prog 49 #[.int .i64 9, .int .i64 c] w fun e w' => e = .returned (.int .i64 c) ∧ w = w' := by
  have n35 : ((c : Int) == 35) = false := by rw [beq_eq_false_iff_ne]; have := hn (35, 163) (by decide); simp only at this; omega
  have n64 : ((c : Int) == 64) = false := by rw [beq_eq_false_iff_ne]; have := hn (64, 224) (by decide); simp only at this; omega
  have n91 : ((c : Int) == 91) = false := by rw [beq_eq_false_iff_ne]; have := hn (91, 176) (by decide); simp only at this; omega
  have n92 : ((c : Int) == 92) = false := by rw [beq_eq_false_iff_ne]; have := hn (92, 231) (by decide); simp only at this; omega
  have n93 : ((c : Int) == 93) = false := by rw [beq_eq_false_iff_ne]; have := hn (93, 167) (by decide); simp only at this; omega
  have n123 : ((c : Int) == 123) = false := by rw [beq_eq_false_iff_ne]; have := hn (123, 233) (by decide); simp only at this; omega
  have n124 : ((c : Int) == 124) = false := by rw [beq_eq_false_iff_ne]; have := hn (124, 249) (by decide); simp only at this; omega
  have n125 : ((c : Int) == 125) = false := by rw [beq_eq_false_iff_ne]; have := hn (125, 232) (by decide); simp only at this; omega
  have n126 : ((c : Int) == 126) = false := by rw [beq_eq_false_iff_ne]; have := hn (126, 168) (by decide); simp only at this; omega
  clear hn
  generalize (c : Int) = y at *
  go_enter Tryd.func49, Tryd.ntmps49
  go_wp2_with fail
  go_ret
  exact ⟨rfl, rfl⟩
theorem nation_any9 (c : Nat) (h1 : 32 ≤ c) (h2 : c < 127) (w : World) :
    Calls Tryd.prog 49 #[.int .i64 9, .int .i64 c] w fun e w' => e = .returned (.int .i64 (gP 9 c)) ∧ w = w' := by
  by_cases hn : ∀ p ∈ natL 9, c ≠ p.1
  · rw [nat_out 9 (by decide) (by decide) (by decide) c h2 h1 hn]
    exact nat9_rest c hn w
  · obtain ⟨p, hp⟩ := Classical.not_forall.1 hn
    obtain ⟨hp, hc⟩ := Classical.not_imp.1 hp
    have hc' : c = p.1 := Classical.not_not.1 hc
    rw [hc', nat_in 9 (by decide) (by decide) (by decide) p hp]
    simp only [natL, List.mem_cons, List.not_mem_nil, or_false] at hp
    rcases hp with rfl | rfl | rfl | rfl | rfl | rfl | rfl | rfl | rfl
    · exact nat9_35 w
    · exact nat9_64 w
    · exact nat9_91 w
    · exact nat9_92 w
    · exact nat9_93 w
    · exact nat9_123 w
    · exact nat9_124 w
    · exact nat9_125 w
    · exact nat9_126 w
set_option maxRecDepth 100000 in
theorem nat10_64 (w : World) : Calls Tryd.prog 49 #[.int .i64 10, .int .i64 64] w fun e w' => e = .returned (.int .i64 224) ∧ w = w' := by
  go_enter Tryd.func49, Tryd.ntmps49
  go_wp2_with fail
  go_ret
  exact ⟨rfl, rfl⟩
set_option maxRecDepth 100000 in
theorem nat10_91 (w : World) : Calls Tryd.prog 49 #[.int .i64 10, .int .i64 91] w fun e w' => e = .returned (.int .i64 226) ∧ w = w' := by
  go_enter Tryd.func49, Tryd.ntmps49
  go_wp2_with fail
  go_ret
  exact ⟨rfl, rfl⟩
set_option maxRecDepth 100000 in
theorem nat10_92 (w : World) : Calls Tryd.prog 49 #[.int .i64 10, .int .i64 92] w fun e w' => e = .returned (.int .i64 231) ∧ w = w' := by
  go_enter Tryd.func49, Tryd.ntmps49
  go_wp2_with fail
  go_ret
  exact ⟨rfl, rfl⟩
set_option maxRecDepth 100000 in
theorem nat10_93 (w : World) : Calls Tryd.prog 49 #[.int .i64 10, .int .i64 93] w fun e w' => e = .returned (.int .i64 234) ∧ w = w' := by
  go_enter Tryd.func49, Tryd.ntmps49
  go_wp2_with fail
  go_ret
  exact ⟨rfl, rfl⟩
set_option maxRecDepth 100000 in
theorem nat10_94 (w : World) : Calls Tryd.prog 49 #[.int .i64 10, .int .i64 94] w fun e w' => e = .returned (.int .i64 238) ∧ w = w' := by
  go_enter Tryd.func49, Tryd.ntmps49
  go_wp2_with fail
  go_ret
  exact ⟨rfl, rfl⟩
set_option maxRecDepth 100000 in
theorem nat10_96 (w : World) : Calls Tryd.prog 49 #[.int .i64 10, .int .i64 96] w fun e w' => e = .returned (.int .i64 244) ∧ w = w' := by
  go_enter Tryd.func49, Tryd.ntmps49
  go_wp2_with fail
  go_ret
  exact ⟨rfl, rfl⟩
set_option maxRecDepth 100000 in
theorem nat10_123 (w : World) : Calls Tryd.prog 49 #[.int .i64 10, .int .i64 123] w fun e w' => e = .returned (.int .i64 233) ∧ w = w' := by
  go_enter Tryd.func49, Tryd.ntmps49
  go_wp2_with fail
  go_ret
  exact ⟨rfl, rfl⟩
set_option maxRecDepth 100000 in
theorem nat10_124 (w : World) : Calls Tryd.prog 49 #[.int .i64 10, .int .i64 124] w fun e w' => e = .returned (.int .i64 249) ∧ w = w' := by
  go_enter Tryd.func49, Tryd.ntmps49
  go_wp2_with fail
  go_ret
  exact ⟨rfl, rfl⟩
set_option maxRecDepth 100000 in
theorem nat10_125 (w : World) : Calls Tryd.prog 49 #[.int .i64 10, .int .i64 125] w fun e w' => e = .returned (.int .i64 232) ∧ w = w' := by
  go_enter Tryd.func49, Tryd.ntmps49
  go_wp2_with fail
  go_ret
  exact ⟨rfl, rfl⟩
set_option maxRecDepth 100000 in
theorem nat10_126 (w : World) : Calls Tryd.prog 49 #[.int .i64 10, .int .i64 126] w fun e w' => e = .returned (.int .i64 251) ∧ w = w' := by
  go_enter Tryd.func49, Tryd.ntmps49
  go_wp2_with fail
  go_ret
  exact ⟨rfl, rfl⟩
set_option maxRecDepth 100000 in
theorem nat10_rest (c : Nat) (hn : ∀ p ∈ natL 10, c ≠ p.1) (w : World) : Calls Tryd.prog 49 #[.int .i64 10, .int .i64 c] w fun e w' => e = .returned (.int .i64 c) ∧ w = w' := by
  have n64 : ((c : Int) == 64) = false := by rw [beq_eq_false_iff_ne]; have := hn (64, 224) (by decide); simp only at this; omega
  have n91 : ((c : Int) == 91) = false := by rw [beq_eq_false_iff_ne]; have := hn (91, 226) (by decide); simp only at this; omega
  have n92 : ((c : Int) == 92) = false := by rw [beq_eq_false_iff_ne]; have := hn (92, 231) (by decide); simp only at this; omega
  have n93 : ((c : Int) == 93) = false := by rw [beq_eq_false_iff_ne]; have := hn (93, 234) (by decide); simp only at this; omega
  have n94 : ((c : Int) == 94) = false := by rw [beq_eq_false_iff_ne]; have := hn (94, 238) (by decide); simp only at this; omega
  have n96 : ((c : Int) == 96) = false := by rw [beq_eq_false_iff_ne]; have := hn (96, 244) (by decide); simp only at this; omega
  have n123 : ((c : Int) == 123) = false := by rw [beq_eq_false_iff_ne]; have := hn (123, 233) (by decide); simp only at this; omega
  have n124 : ((c : Int) == 124) = false := by rw [beq_eq_false_iff_ne]; have := hn (124, 249) (by decide); simp only at this; omega
  have n125 : ((c : Int) == 125) = false := by rw [beq_eq_false_iff_ne]; have := hn (125, 232) (by decide); simp only at this; omega
  have n126 : ((c : Int) == 126) = false := by rw [beq_eq_false_iff_ne]; have := hn (126, 251) (by decide); simp only at this; omega
  clear hn
  generalize (c : Int) = y at *
  go_enter Tryd.func49, Tryd.ntmps49
  go_wp2_with fail
  go_ret
  exact ⟨rfl, rfl⟩
theorem nation_any10 (c : Nat) (h1 : 32 ≤ c) (h2 : c < 127) (w : World) :
    Calls Tryd.prog 49 #[.int .i64 10, .int .i64 c] w fun e w' => e = .returned (.int .i64 (gP 10 c)) ∧ w = w' := by
  by_cases hn : ∀ p ∈ natL 10, c ≠ p.1
  · rw [nat_out 10 (by decide) (by decide) (by decide) c h2 h1 hn]
    exact nat10_rest c hn w
  · obtain ⟨p, hp⟩ := Classical.not_forall.1 hn
    obtain ⟨hp, hc⟩ := Classical.not_imp.1 hp
    have hc' : c = p.1 := Classical.not_not.1 hc
    rw [hc', nat_in 10 (by decide) (by decide) (by decide) p hp]
    simp only [natL, List.mem_cons, List.not_mem_nil, or_false] at hp
    rcases hp with rfl | rfl | rfl | rfl | rfl | rfl | rfl | rfl | rfl | rfl
    · exact nat10_64 w
    · exact nat10_91 w
    · exact nat10_92 w
    · exact nat10_93 w
    · exact nat10_94 w
    · exact nat10_96 w
    · exact nat10_123 w
    · exact nat10_124 w
    · exact nat10_125 w
    · exact nat10_126 w
set_option maxRecDepth 100000 in
theorem nat11_64 (w : World) : Calls Tryd.prog 49 #[.int .i64 11, .int .i64 64] w fun e w' => e = .returned (.int .i64 167) ∧ w = w' := by
  go_enter Tryd.func49, Tryd.ntmps49
  go_wp2_with fail
  go_ret
  exact ⟨rfl, rfl⟩
set_option maxRecDepth 100000 in
theorem nat11_91 (w : World) : Calls Tryd.prog 49 #[.int .i64 11, .int .i64 91] w fun e w' => e = .returned (.int .i64 196) ∧ w = w' := by
  go_enter Tryd.func49, Tryd.ntmps49
  go_wp2_with fail
  go_ret
  exact ⟨rfl, rfl⟩
set_option maxRecDepth 100000 in
theorem nat11_92 (w : World) : Calls Tryd.prog 49 #[.int .i64 11, .int .i64 92] w fun e w' => e = .returned (.int .i64 214) ∧ w = w' := by
  go_enter Tryd.func49, Tryd.ntmps49
  go_wp2_with fail
  go_ret
  exact ⟨rfl, rfl⟩
set_option maxRecDepth 100000 in
theorem nat11_93 (w : World) : Calls Tryd.prog 49 #[.int .i64 11, .int .i64 93] w fun e w' => e = .returned (.int .i64 220) ∧ w = w' := by
  go_enter Tryd.func49, Tryd.ntmps49
  go_wp2_with fail
  go_ret
  exact ⟨rfl, rfl⟩
set_option maxRecDepth 100000 in
theorem nat11_123 (w : World) : Calls Tryd.prog 49 #[.int .i64 11, .int .i64 123] w fun e w' => e = .returned (.int .i64 228) ∧ w = w' := by
  go_enter Tryd.func49, Tryd.ntmps49
  go_wp2_with fail
  go_ret
  exact ⟨rfl, rfl⟩
set_option maxRecDepth 100000 in
theorem nat11_124 (w : World) : Calls Tryd.prog 49 #[.int .i64 11, .int .i64 124] w fun e w' => e = .returned (.int .i64 246) ∧ w = w' := by
  go_enter Tryd.func49, Tryd.ntmps49
  go_wp2_with fail
  go_ret
  exact ⟨rfl, rfl⟩
set_option maxRecDepth 100000 in
theorem nat11_125 (w : World) : Calls Tryd.prog 49 #[.int .i64 11, .int .i64 125] w fun e w' => e = .returned (.int .i64 252) ∧ w = w' := by
  go_enter Tryd.func49, Tryd.ntmps49
  go_wp2_with fail
  go_ret
  exact ⟨rfl, rfl⟩
set_option maxRecDepth 100000 in
theorem nat11_126 (w : World) : Calls Tryd.prog 49 #[.int .i64 11, .int .i64 126] w fun e w' => e = .returned (.int .i64 223) ∧ w = w' := by
  go_enter Tryd.func49, Tryd.ntmps49
  go_wp2_with fail
  go_ret
  exact ⟨rfl, rfl⟩
set_option maxRecDepth 100000 in
theorem nat11_rest (c : Nat) (hn : ∀ p ∈ natL 11, c ≠ p.1) (w : World) : Calls Tryd.prog 49 #[.int .i64 11, .int .i64 c] w fun e w' => e = .returned (.int .i64 c) ∧ w = w' := by
  have n64 : ((c : Int) == 64) = false := by rw [beq_eq_false_iff_ne]; have := hn (64, 167) (by decide); simp only at this; omega
  have n91 : ((c : Int) == 91) = false := by rw [beq_eq_false_iff_ne]; have := hn (91, 196) (by decide); simp only at this; omega
  have n92 : ((c : Int) == 92) = false := by rw [beq_eq_false_iff_ne]; have := hn (92, 214) (by decide); simp only at this; omega
  have n93 : ((c : Int) == 93) = false := by rw [beq_eq_false_iff_ne]; have := hn (93, 220) (by decide); simp only at this; omega
  have n123 : ((c : Int) == 123) = false := by rw [beq_eq_false_iff_ne]; have := hn (123, 228) (by decide); simp only at this; omega
  have n124 : ((c : Int) == 124) = false := by rw [beq_eq_false_iff_ne]; have := hn (124, 246) (by decide); simp only at this; omega
  have n125 : ((c : Int) == 125) = false := by rw [beq_eq_false_iff_ne]; have := hn (125, 252) (by decide); simp only at this; omega
  have n126 : ((c : Int) == 126) = false := by rw [beq_eq_false_iff_ne]; have := hn (126, 223) (by decide); simp only at this; omega
  clear hn
  generalize (c : Int) = y at *
  go_enter Tryd.func49, Tryd.ntmps49
  go_wp2_with fail
  go_ret
  exact ⟨rfl, rfl⟩
theorem nation_any11 (c : Nat) (h1 : 32 ≤ c) (h2 : c < 127) (w : World) :
    Calls Tryd.prog 49 #[.int .i64 11, .int .i64 c] w fun e w' => e = .returned (.int .i64 (gP 11 c)) ∧ w = w' := by
  by_cases hn : ∀ p ∈ natL 11, c ≠ p.1
  · rw [nat_out 11 (by decide) (by decide) (by decide) c h2 h1 hn]
    exact nat11_rest c hn w
  · obtain ⟨p, hp⟩ := Classical.not_forall.1 hn
    obtain ⟨hp, hc⟩ := Classical.not_imp.1 hp
    have hc' : c = p.1 := Classical.not_not.1 hc
    rw [hc', nat_in 11 (by decide) (by decide) (by decide) p hp]
    simp only [natL, List.mem_cons, List.not_mem_nil, or_false] at hp
    rcases hp with rfl | rfl | rfl | rfl | rfl | rfl | rfl | rfl
    · exact nat11_64 w
    · exact nat11_91 w
    · exact nat11_92 w
    · exact nat11_93 w
    · exact nat11_123 w
    · exact nat11_124 w
    · exact nat11_125 w
    · exact nat11_126 w
end Go.Proofs.YtandfpghjbbalaaDoor

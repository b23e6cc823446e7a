/-
  The reference's national sets, code by code.
-/
import Derived.Test.YtandfpghjbbalaaDoorChsE
namespace Go.Proofs.YtandfpghjbbalaaDoor
open Go Go.RowKit

set_option maxRecDepth 100000 in
theorem nat12_35 (w : World) : Calls Tryd.prog 49 #[.int .i64 12, .int .i64 35] w fun e w' => e = .returned (.int .i64 163) ∧ w = w' := by
  go_enter Tryd.func49, Tryd.ntmps49
  go_wp2_with fail
  go_ret
  exact ⟨rfl, rfl⟩
set_option maxRecDepth 100000 in
theorem nat12_64 (w : World) : Calls Tryd.prog 49 #[.int .i64 12, .int .i64 64] w fun e w' => e = .returned (.int .i64 167) ∧ w = w' := by
  go_enter Tryd.func49, Tryd.ntmps49
  go_wp2_with fail
  go_ret
  exact ⟨rfl, rfl⟩
set_option maxRecDepth 100000 in
theorem nat12_91 (w : World) : Calls Tryd.prog 49 #[.int .i64 12, .int .i64 91] w fun e w' => e = .returned (.int .i64 176) ∧ w = w' := by
  go_enter Tryd.func49, Tryd.ntmps49
  go_wp2_with fail
  go_ret
  exact ⟨rfl, rfl⟩
set_option maxRecDepth 100000 in
theorem nat12_92 (w : World) : Calls Tryd.prog 49 #[.int .i64 12, .int .i64 92] w fun e w' => e = .returned (.int .i64 231) ∧ w = w' := by
  go_enter Tryd.func49, Tryd.ntmps49
  go_wp2_with fail
  go_ret
  exact ⟨rfl, rfl⟩
set_option maxRecDepth 100000 in
theorem nat12_93 (w : World) : Calls Tryd.prog 49 #[.int .i64 12, .int .i64 93] w fun e w' => e = .returned (.int .i64 233) ∧ w = w' := by
  go_enter Tryd.func49, Tryd.ntmps49
  go_wp2_with fail
  go_ret
  exact ⟨rfl, rfl⟩
set_option maxRecDepth 100000 in
theorem nat12_96 (w : World) : Calls Tryd.prog 49 #[.int .i64 12, .int .i64 96] w fun e w' => e = .returned (.int .i64 249) ∧ w = w' := by
  go_enter Tryd.func49, Tryd.ntmps49
  go_wp2_with fail
  go_ret
  exact ⟨rfl, rfl⟩
set_option maxRecDepth 100000 in
theorem nat12_123 (w : World) : Calls Tryd.prog 49 #[.int .i64 12, .int .i64 123] w fun e w' => e = .returned (.int .i64 224) ∧ w = w' := by
  go_enter Tryd.func49, Tryd.ntmps49
  go_wp2_with fail
  go_ret
  exact ⟨rfl, rfl⟩
set_option maxRecDepth 100000 in
theorem nat12_124 (w : World) : Calls Tryd.prog 49 #[.int .i64 12, .int .i64 124] w fun e w' => e = .returned (.int .i64 242) ∧ w = w' := by
  go_enter Tryd.func49, Tryd.ntmps49
  go_wp2_with fail
  go_ret
  exact ⟨rfl, rfl⟩
set_option maxRecDepth 100000 in
theorem nat12_125 (w : World) : Calls Tryd.prog 49 #[.int .i64 12, .int .i64 125] w fun e w' => e = .returned (.int .i64 232) ∧ w = w' := by
  go_enter Tryd.func49, Tryd.ntmps49
  go_wp2_with fail
  go_ret
  exact ⟨rfl, rfl⟩
set_option maxRecDepth 100000 in
theorem nat12_126 (w : World) : Calls Tryd.prog 49 #[.int .i64 12, .int .i64 126] w fun e w' => e = .returned (.int .i64 236) ∧ w = w' := by
  go_enter Tryd.func49, Tryd.ntmps49
  go_wp2_with fail
  go_ret
  exact ⟨rfl, rfl⟩
set_option maxRecDepth 100000 in
theorem nat12_rest (c : Nat) (hn : ∀ p ∈ natL 12, c ≠ p.1) (w : World) : Calls Tryd.prog 49 #[.int .i64 12, .int .i64 c] w fun e w' => e = .returned (.int .i64 c) ∧ w = w' := by
  have n35 : ((c : Int) == 35) = false := by rw [beq_eq_false_iff_ne]; have := hn (35, 163) (by decide); simp only at this; omega
  have n64 : ((c : Int) == 64) = false := by rw [beq_eq_false_iff_ne]; have := hn (64, 167) (by decide); simp only at this; omega
  have n91 : ((c : Int) == 91) = false := by rw [beq_eq_false_iff_ne]; have := hn (91, 176) (by decide); simp only at this; omega
  have n92 : ((c : Int) == 92) = false := by rw [beq_eq_false_iff_ne]; have := hn (92, 231) (by decide); simp only at this; omega
  have n93 : ((c : Int) == 93) = false := by rw [beq_eq_false_iff_ne]; have := hn (93, 233) (by decide); simp only at this; omega
  have n96 : ((c : Int) == 96) = false := by rw [beq_eq_false_iff_ne]; have := hn (96, 249) (by decide); simp only at this; omega
  have n123 : ((c : Int) == 123) = false := by rw [beq_eq_false_iff_ne]; have := hn (123, 224) (by decide); simp only at this; omega
  have n124 : ((c : Int) == 124) = false := by rw [beq_eq_false_iff_ne]; have := hn (124, 242) (by decide); simp only at this; omega
  have n125 : ((c : Int) == 125) = false := by rw [beq_eq_false_iff_ne]; have := hn (125, 232) (by decide); simp only at this; omega
  have n126 : ((c : Int) == 126) = false := by rw [beq_eq_false_iff_ne]; have := hn (126, 236) (by decide); simp only at this; omega
  clear hn
  generalize (c : Int) = y at *
  go_enter Tryd.func49, Tryd.ntmps49
  go_wp2_with fail
  go_ret
  exact ⟨rfl, rfl⟩
theorem nation_any12 (c : Nat) (h1 : 32 ≤ c) (h2 : c < 127) (w : World) :
    Calls Tryd.prog 49 #[.int .i64 12, .int .i64 c] w fun e w' => e = .returned (.int .i64 (gP 12 c)) ∧ w = w' := by
  by_cases hn : ∀ p ∈ natL 12, c ≠ p.1
  · rw [nat_out 12 (by decide) (by decide) (by decide) c h2 h1 hn]
    exact nat12_rest c hn w
  · obtain ⟨p, hp⟩ := Classical.not_forall.1 hn
    obtain ⟨hp, hc⟩ := Classical.not_imp.1 hp
    have hc' : c = p.1 := Classical.not_not.1 hc
    rw [hc', nat_in 12 (by decide) (by decide) (by decide) p hp]
    simp only [natL, List.mem_cons, List.not_mem_nil, or_false] at hp
    rcases hp with rfl | rfl | rfl | rfl | rfl | rfl | rfl | rfl | rfl | rfl
    · exact nat12_35 w
    · exact nat12_64 w
    · exact nat12_91 w
    · exact nat12_92 w
    · exact nat12_93 w
    · exact nat12_96 w
    · exact nat12_123 w
    · exact nat12_124 w
    · exact nat12_125 w
    · exact nat12_126 w
set_option maxRecDepth 100000 in
theorem nat13_64 (w : World) : Calls Tryd.prog 49 #[.int .i64 13, .int .i64 64] w fun e w' => e = .returned (.int .i64 196) ∧ w = w' := by
  go_enter Tryd.func49, Tryd.ntmps49
  go_wp2_with fail
  go_ret
  exact ⟨rfl, rfl⟩
set_option maxRecDepth 100000 in
theorem nat13_91 (w : World) : Calls Tryd.prog 49 #[.int .i64 13, .int .i64 91] w fun e w' => e = .returned (.int .i64 198) ∧ w = w' := by
  go_enter Tryd.func49, Tryd.ntmps49
  go_wp2_with fail
  go_ret
  exact ⟨rfl, rfl⟩
set_option maxRecDepth 100000 in
theorem nat13_92 (w : World) : Calls Tryd.prog 49 #[.int .i64 13, .int .i64 92] w fun e w' => e = .returned (.int .i64 216) ∧ w = w' := by
  go_enter Tryd.func49, Tryd.ntmps49
  go_wp2_with fail
  go_ret
  exact ⟨rfl, rfl⟩
set_option maxRecDepth 100000 in
theorem nat13_93 (w : World) : Calls Tryd.prog 49 #[.int .i64 13, .int .i64 93] w fun e w' => e = .returned (.int .i64 197) ∧ w = w' := by
  go_enter Tryd.func49, Tryd.ntmps49
  go_wp2_with fail
  go_ret
  exact ⟨rfl, rfl⟩
set_option maxRecDepth 100000 in
theorem nat13_94 (w : World) : Calls Tryd.prog 49 #[.int .i64 13, .int .i64 94] w fun e w' => e = .returned (.int .i64 220) ∧ w = w' := by
  go_enter Tryd.func49, Tryd.ntmps49
  go_wp2_with fail
  go_ret
  exact ⟨rfl, rfl⟩
set_option maxRecDepth 100000 in
theorem nat13_96 (w : World) : Calls Tryd.prog 49 #[.int .i64 13, .int .i64 96] w fun e w' => e = .returned (.int .i64 228) ∧ w = w' := by
  go_enter Tryd.func49, Tryd.ntmps49
  go_wp2_with fail
  go_ret
  exact ⟨rfl, rfl⟩
set_option maxRecDepth 100000 in
theorem nat13_123 (w : World) : Calls Tryd.prog 49 #[.int .i64 13, .int .i64 123] w fun e w' => e = .returned (.int .i64 230) ∧ w = w' := by
  go_enter Tryd.func49, Tryd.ntmps49
  go_wp2_with fail
  go_ret
  exact ⟨rfl, rfl⟩
set_option maxRecDepth 100000 in
theorem nat13_124 (w : World) : Calls Tryd.prog 49 #[.int .i64 13, .int .i64 124] w fun e w' => e = .returned (.int .i64 248) ∧ w = w' := by
  go_enter Tryd.func49, Tryd.ntmps49
  go_wp2_with fail
  go_ret
  exact ⟨rfl, rfl⟩
set_option maxRecDepth 100000 in
theorem nat13_125 (w : World) : Calls Tryd.prog 49 #[.int .i64 13, .int .i64 125] w fun e w' => e = .returned (.int .i64 229) ∧ w = w' := by
  go_enter Tryd.func49, Tryd.ntmps49
  go_wp2_with fail
  go_ret
  exact ⟨rfl, rfl⟩
set_option maxRecDepth 100000 in
theorem nat13_126 (w : World) : Calls Tryd.prog 49 #[.int .i64 13, .int .i64 126] w fun e w' => e = .returned (.int .i64 252) ∧ w = w' := by
  go_enter Tryd.func49, Tryd.ntmps49
  go_wp2_with fail
  go_ret
  exact ⟨rfl, rfl⟩
set_option maxRecDepth 100000 in
theorem nat13_rest (c : Nat) (hn : ∀ p ∈ natL 13, c ≠ p.1) (w : World) : Calls Tryd.prog 49 #[.int .i64 13, .int .i64 c] w fun e w' => e = .returned (.int .i64 c) ∧ w = w' := by
  have n64 : ((c : Int) == 64) = false := by rw [beq_eq_false_iff_ne]; have := hn (64, 196) (by decide); simp only at this; omega
  have n91 : ((c : Int) == 91) = false := by rw [beq_eq_false_iff_ne]; have := hn (91, 198) (by decide); simp only at this; omega
  have n92 : ((c : Int) == 92) = false := by rw [beq_eq_false_iff_ne]; have := hn (92, 216) (by decide); simp only at this; omega
  have n93 : ((c : Int) == 93) = false := by rw [beq_eq_false_iff_ne]; have := hn (93, 197) (by decide); simp only at this; omega
  have n94 : ((c : Int) == 94) = false := by rw [beq_eq_false_iff_ne]; have := hn (94, 220) (by decide); simp only at this; omega
  have n96 : ((c : Int) == 96) = false := by rw [beq_eq_false_iff_ne]; have := hn (96, 228) (by decide); simp only at this; omega
  have n123 : ((c : Int) == 123) = false := by rw [beq_eq_false_iff_ne]; have := hn (123, 230) (by decide); simp only at this; omega
  have n124 : ((c : Int) == 124) = false := by rw [beq_eq_false_iff_ne]; have := hn (124, 248) (by decide); simp only at this; omega
  have n125 : ((c : Int) == 125) = false := by rw [beq_eq_false_iff_ne]; have := hn (125, 229) (by decide); simp only at this; omega
  have n126 : ((c : Int) == 126) = false := by rw [beq_eq_false_iff_ne]; have := hn (126, 252) (by decide); simp only at this; omega
  clear hn
  generalize (c : Int) = y at *
  go_enter Tryd.func49, Tryd.ntmps49
  go_wp2_with fail
  go_ret
  exact ⟨rfl, rfl⟩
theorem nation_any13 (c : Nat) (h1 : 32 ≤ c) (h2 : c < 127) (w : World) :
    Calls Tryd.prog 49 #[.int .i64 13, .int .i64 c] w fun e w' => e = .returned (.int .i64 (gP 13 c)) ∧ w = w' := by
  by_cases hn : ∀ p ∈ natL 13, c ≠ p.1
  · rw [nat_out 13 (by decide) (by decide) (by decide) c h2 h1 hn]
    exact nat13_rest c hn w
  · obtain ⟨p, hp⟩ := Classical.not_forall.1 hn
    obtain ⟨hp, hc⟩ := Classical.not_imp.1 hp
    have hc' : c = p.1 := Classical.not_not.1 hc
    rw [hc', nat_in 13 (by decide) (by decide) (by decide) p hp]
    simp only [natL, List.mem_cons, List.not_mem_nil, or_false] at hp
    rcases hp with rfl | rfl | rfl | rfl | rfl | rfl | rfl | rfl | rfl | rfl
    · exact nat13_64 w
    · exact nat13_91 w
    · exact nat13_92 w
    · exact nat13_93 w
    · exact nat13_94 w
    · exact nat13_96 w
    · exact nat13_123 w
    · exact nat13_124 w
    · exact nat13_125 w
    · exact nat13_126 w
set_option maxRecDepth 100000 in
theorem nat14_91 (w : World) : Calls Tryd.prog 49 #[.int .i64 14, .int .i64 91] w fun e w' => e = .returned (.int .i64 195) ∧ w = w' := by
  go_enter Tryd.func49, Tryd.ntmps49
  go_wp2_with fail
  go_ret
  exact ⟨rfl, rfl⟩
set_option maxRecDepth 100000 in
theorem nat14_92 (w : World) : Calls Tryd.prog 49 #[.int .i64 14, .int .i64 92] w fun e w' => e = .returned (.int .i64 199) ∧ w = w' := by
  go_enter Tryd.func49, Tryd.ntmps49
  go_wp2_with fail
  go_ret
  exact ⟨rfl, rfl⟩
set_option maxRecDepth 100000 in
theorem nat14_93 (w : World) : Calls Tryd.prog 49 #[.int .i64 14, .int .i64 93] w fun e w' => e = .returned (.int .i64 213) ∧ w = w' := by
  go_enter Tryd.func49, Tryd.ntmps49
  go_wp2_with fail
  go_ret
  exact ⟨rfl, rfl⟩
set_option maxRecDepth 100000 in
theorem nat14_123 (w : World) : Calls Tryd.prog 49 #[.int .i64 14, .int .i64 123] w fun e w' => e = .returned (.int .i64 227) ∧ w = w' := by
  go_enter Tryd.func49, Tryd.ntmps49
  go_wp2_with fail
  go_ret
  exact ⟨rfl, rfl⟩
set_option maxRecDepth 100000 in
theorem nat14_124 (w : World) : Calls Tryd.prog 49 #[.int .i64 14, .int .i64 124] w fun e w' => e = .returned (.int .i64 231) ∧ w = w' := by
  go_enter Tryd.func49, Tryd.ntmps49
  go_wp2_with fail
  go_ret
  exact ⟨rfl, rfl⟩
set_option maxRecDepth 100000 in
theorem nat14_125 (w : World) : Calls Tryd.prog 49 #[.int .i64 14, .int .i64 125] w fun e w' => e = .returned (.int .i64 245) ∧ w = w' := by
  go_enter Tryd.func49, Tryd.ntmps49
  go_wp2_with fail
  go_ret
  exact ⟨rfl, rfl⟩
set_option maxRecDepth 100000 in
theorem nat14_rest (c : Nat) (hn : ∀ p ∈ natL 14, c ≠ p.1) (w : World) : Calls Tryd.prog 49 #[.int .i64 14, .int .i64 c] w fun e w' => e = .returned (.int .i64 c) ∧ w = w' := by
  have n91 : ((c : Int) == 91) = false := by rw [beq_eq_false_iff_ne]; have := hn (91, 195) (by decide); simp only at this; omega
  have n92 : ((c : Int) == 92) = false := by rw [beq_eq_false_iff_ne]; have := hn (92, 199) (by decide); simp only at this; omega
  have n93 : ((c : Int) == 93) = false := by rw [beq_eq_false_iff_ne]; have := hn (93, 213) (by decide); simp only at this; omega
  have n123 : ((c : Int) == 123) = false := by rw [beq_eq_false_iff_ne]; have := hn (123, 227) (by decide); simp only at this; omega
  have n124 : ((c : Int) == 124) = false := by rw [beq_eq_false_iff_ne]; have := hn (124, 231) (by decide); simp only at this; omega
  have n125 : ((c : Int) == 125) = false := by rw [beq_eq_false_iff_ne]; have := hn (125, 245) (by decide); simp only at this; omega
  clear hn
  generalize (c : Int) = y at *
  go_enter Tryd.func49, Tryd.ntmps49
  go_wp2_with fail
  go_ret
  exact ⟨rfl, rfl⟩
theorem nation_any14 (c : Nat) (h1 : 32 ≤ c) (h2 : c < 127) (w : World) :
    Calls Tryd.prog 49 #[.int .i64 14, .int .i64 c] w fun e w' => e = .returned (.int .i64 (gP 14 c)) ∧ w = w' := by
  by_cases hn : ∀ p ∈ natL 14, c ≠ p.1
  · rw [nat_out 14 (by decide) (by decide) (by decide) c h2 h1 hn]
    exact nat14_rest c hn w
  · obtain ⟨p, hp⟩ := Classical.not_forall.1 hn
    obtain ⟨hp, hc⟩ := Classical.not_imp.1 hp
    have hc' : c = p.1 := Classical.not_not.1 hc
    rw [hc', nat_in 14 (by decide) (by decide) (by decide) p hp]
    simp only [natL, List.mem_cons, List.not_mem_nil, or_false] at hp
    rcases hp with rfl | rfl | rfl | rfl | rfl | rfl
    · exact nat14_91 w
    · exact nat14_92 w
    · exact nat14_93 w
    · exact nat14_123 w
    · exact nat14_124 w
    · exact nat14_125 w
set_option maxRecDepth 100000 in
theorem nat15_35 (w : World) : Calls Tryd.prog 49 #[.int .i64 15, .int .i64 35] w fun e w' => e = .returned (.int .i64 163) ∧ w = w' := by
  go_enter Tryd.func49, Tryd.ntmps49
  go_wp2_with fail
  go_ret
  exact ⟨rfl, rfl⟩
set_option maxRecDepth 100000 in
theorem nat15_64 (w : World) : Calls Tryd.prog 49 #[.int .i64 15, .int .i64 64] w fun e w' => e = .returned (.int .i64 167) ∧ w = w' := by
  go_enter Tryd.func49, Tryd.ntmps49
  go_wp2_with fail
  go_ret
  exact ⟨rfl, rfl⟩
set_option maxRecDepth 100000 in
theorem nat15_91 (w : World) : Calls Tryd.prog 49 #[.int .i64 15, .int .i64 91] w fun e w' => e = .returned (.int .i64 161) ∧ w = w' := by
  go_enter Tryd.func49, Tryd.ntmps49
  go_wp2_with fail
  go_ret
  exact ⟨rfl, rfl⟩
set_option maxRecDepth 100000 in
theorem nat15_92 (w : World) : Calls Tryd.prog 49 #[.int .i64 15, .int .i64 92] w fun e w' => e = .returned (.int .i64 209) ∧ w = w' := by
  go_enter Tryd.func49, Tryd.ntmps49
  go_wp2_with fail
  go_ret
  exact ⟨rfl, rfl⟩
set_option maxRecDepth 100000 in
theorem nat15_93 (w : World) : Calls Tryd.prog 49 #[.int .i64 15, .int .i64 93] w fun e w' => e = .returned (.int .i64 191) ∧ w = w' := by
  go_enter Tryd.func49, Tryd.ntmps49
  go_wp2_with fail
  go_ret
  exact ⟨rfl, rfl⟩
set_option maxRecDepth 100000 in
theorem nat15_123 (w : World) : Calls Tryd.prog 49 #[.int .i64 15, .int .i64 123] w fun e w' => e = .returned (.int .i64 176) ∧ w = w' := by
  go_enter Tryd.func49, Tryd.ntmps49
  go_wp2_with fail
  go_ret
  exact ⟨rfl, rfl⟩
set_option maxRecDepth 100000 in
theorem nat15_124 (w : World) : Calls Tryd.prog 49 #[.int .i64 15, .int .i64 124] w fun e w' => e = .returned (.int .i64 241) ∧ w = w' := by
  go_enter Tryd.func49, Tryd.ntmps49
  go_wp2_with fail
  go_ret
  exact ⟨rfl, rfl⟩
set_option maxRecDepth 100000 in
theorem nat15_125 (w : World) : Calls Tryd.prog 49 #[.int .i64 15, .int .i64 125] w fun e w' => e = .returned (.int .i64 231) ∧ w = w' := by
  go_enter Tryd.func49, Tryd.ntmps49
  go_wp2_with fail
  go_ret
  exact ⟨rfl, rfl⟩
set_option maxRecDepth 100000 in
theorem nat15_rest (c : Nat) (hn : ∀ p ∈ natL 15, c ≠ p.1) (w : World) : Calls Tryd.prog 49 #[.int .i64 15, .int .i64 c] w fun e w' => e = .returned (.int .i64 c) ∧ w = w' := by
  have n35 : ((c : Int) == 35) = false := by rw [beq_eq_false_iff_ne]; have := hn (35, 163) (by decide); simp only at this; omega
  have n64 : ((c : Int) == 64) = false := by rw [beq_eq_false_iff_ne]; have := hn (64, 167) (by decide); simp only at this; omega
  have n91 : ((c : Int) == 91) = false := by rw [beq_eq_false_iff_ne]; have := hn (91, 161) (by decide); simp only at this; omega
  have n92 : ((c : Int) == 92) = false := by rw [beq_eq_false_iff_ne]; have := hn (92, 209) (by decide); simp only at this; omega
  have n93 : ((c : Int) == 93) = false := by rw [beq_eq_false_iff_ne]; have := hn (93, 191) (by decide); simp only at this; omega
  have n123 : ((c : Int) == 123) = false := by rw [beq_eq_false_iff_ne]; have := hn (123, 176) (by decide); simp only at this; omega
  have n124 : ((c : Int) == 124) = false := by rw [beq_eq_false_iff_ne]; have := hn (124, 241) (by decide); simp only at this; omega
  have n125 : ((c : Int) == 125) = false := by rw [beq_eq_false_iff_ne]; have := hn (125, 231) (by decide); simp only at this; omega
  clear hn
  generalize (c : Int) = y at *
  go_enter Tryd.func49, Tryd.ntmps49
  go_wp2_with fail
  go_ret
  exact ⟨rfl, rfl⟩
theorem nation_any15 (c : Nat) (h1 : 32 ≤ c) (h2 : c < 127) (w : World) :
    Calls Tryd.prog 49 #[.int .i64 15, .int .i64 c] w fun e w' => e = .returned (.int .i64 (gP 15 c)) ∧ w = w' := by
  by_cases hn : ∀ p ∈ natL 15, c ≠ p.1
  · rw [nat_out 15 (by decide) (by decide) (by decide) c h2 h1 hn]
    exact nat15_rest c hn w
  · obtain ⟨p, hp⟩ := Classical.not_forall.1 hn
    obtain ⟨hp, hc⟩ := Classical.not_imp.1 hp
    have hc' : c = p.1 := Classical.not_not.1 hc
    rw [hc', nat_in 15 (by decide) (by decide) (by decide) p hp]
    simp only [natL, List.mem_cons, List.not_mem_nil, or_false] at hp
    rcases hp with rfl | rfl | rfl | rfl | rfl | rfl | rfl | rfl
    · exact nat15_35 w
    · exact nat15_64 w
    · exact nat15_91 w
    · exact nat15_92 w
    · exact nat15_93 w
    · exact nat15_123 w
    · exact nat15_124 w
    · exact nat15_125 w
set_option maxRecDepth 100000 in
theorem nat16_64 (w : World) : Calls Tryd.prog 49 #[.int .i64 16, .int .i64 64] w fun e w' => e = .returned (.int .i64 201) ∧ w = w' := by
  go_enter Tryd.func49, Tryd.ntmps49
  go_wp2_with fail
  go_ret
  exact ⟨rfl, rfl⟩
set_option maxRecDepth 100000 in
theorem nat16_91 (w : World) : Calls Tryd.prog 49 #[.int .i64 16, .int .i64 91] w fun e w' => e = .returned (.int .i64 196) ∧ w = w' := by
  go_enter Tryd.func49, Tryd.ntmps49
  go_wp2_with fail
  go_ret
  exact ⟨rfl, rfl⟩
set_option maxRecDepth 100000 in
theorem nat16_92 (w : World) : Calls Tryd.prog 49 #[.int .i64 16, .int .i64 92] w fun e w' => e = .returned (.int .i64 214) ∧ w = w' := by
  go_enter Tryd.func49, Tryd.ntmps49
  go_wp2_with fail
  go_ret
  exact ⟨rfl, rfl⟩
set_option maxRecDepth 100000 in
theorem nat16_93 (w : World) : Calls Tryd.prog 49 #[.int .i64 16, .int .i64 93] w fun e w' => e = .returned (.int .i64 197) ∧ w = w' := by
  go_enter Tryd.func49, Tryd.ntmps49
  go_wp2_with fail
  go_ret
  exact ⟨rfl, rfl⟩
set_option maxRecDepth 100000 in
theorem nat16_94 (w : World) : Calls Tryd.prog 49 #[.int .i64 16, .int .i64 94] w fun e w' => e = .returned (.int .i64 220) ∧ w = w' := by
  go_enter Tryd.func49, Tryd.ntmps49
  go_wp2_with fail
  go_ret
  exact ⟨rfl, rfl⟩
set_option maxRecDepth 100000 in
theorem nat16_96 (w : World) : Calls Tryd.prog 49 #[.int .i64 16, .int .i64 96] w fun e w' => e = .returned (.int .i64 233) ∧ w = w' := by
  go_enter Tryd.func49, Tryd.ntmps49
  go_wp2_with fail
  go_ret
  exact ⟨rfl, rfl⟩
set_option maxRecDepth 100000 in
theorem nat16_123 (w : World) : Calls Tryd.prog 49 #[.int .i64 16, .int .i64 123] w fun e w' => e = .returned (.int .i64 228) ∧ w = w' := by
  go_enter Tryd.func49, Tryd.ntmps49
  go_wp2_with fail
  go_ret
  exact ⟨rfl, rfl⟩
set_option maxRecDepth 100000 in
theorem nat16_124 (w : World) : Calls Tryd.prog 49 #[.int .i64 16, .int .i64 124] w fun e w' => e = .returned (.int .i64 246) ∧ w = w' := by
  go_enter Tryd.func49, Tryd.ntmps49
  go_wp2_with fail
  go_ret
  exact ⟨rfl, rfl⟩
set_option maxRecDepth 100000 in
theorem nat16_125 (w : World) : Calls Tryd.prog 49 #[.int .i64 16, .int .i64 125] w fun e w' => e = .returned (.int .i64 229) ∧ w = w' := by
  go_enter Tryd.func49, Tryd.ntmps49
  go_wp2_with fail
  go_ret
  exact ⟨rfl, rfl⟩
set_option maxRecDepth 100000 in
theorem nat16_126 (w : World) : Calls Tryd.prog 49 #[.int .i64 16, .int .i64 126] w fun e w' => e = .returned (.int .i64 252) ∧ w = w' := by
  go_enter Tryd.func49, Tryd.ntmps49
  go_wp2_with fail
  go_ret
  exact ⟨rfl, rfl⟩
set_option maxRecDepth 100000 in
theorem nat16_rest (c : Nat) (hn : ∀ p ∈ natL 16, c ≠ p.1) (w : World) : Calls Tryd.prog 49 #[.int .i64 16, .int .i64 c] w fun e w' => e = .returned (.int .i64 c) ∧ w = w' := by
  have n64 : ((c : Int) == 64) = false := by rw [beq_eq_false_iff_ne]; have := hn (64, 201) (by decide); simp only at this; omega
  have n91 : ((c : Int) == 91) = false := by rw [beq_eq_false_iff_ne]; have := hn (91, 196) (by decide); simp only at this; omega
  have n92 : ((c : Int) == 92) = false := by rw [beq_eq_false_iff_ne]; have := hn (92, 214) (by decide); simp only at this; omega
  have n93 : ((c : Int) == 93) = false := by rw [beq_eq_false_iff_ne]; have := hn (93, 197) (by decide); simp only at this; omega
  have n94 : ((c : Int) == 94) = false := by rw [beq_eq_false_iff_ne]; have := hn (94, 220) (by decide); simp only at this; omega
  have n96 : ((c : Int) == 96) = false := by rw [beq_eq_false_iff_ne]; have := hn (96, 233) (by decide); simp only at this; omega
  have n123 : ((c : Int) == 123) = false := by rw [beq_eq_false_iff_ne]; have := hn (123, 228) (by decide); simp only at this; omega
  have n124 : ((c : Int) == 124) = false := by rw [beq_eq_false_iff_ne]; have := hn (124, 246) (by decide); simp only at this; omega
  have n125 : ((c : Int) == 125) = false := by rw [beq_eq_false_iff_ne]; have := hn (125, 229) (by decide); simp only at this; omega
  have n126 : ((c : Int) == 126) = false := by rw [beq_eq_false_iff_ne]; have := hn (126, 252) (by decide); simp only at this; omega
  clear hn
  generalize (c : Int) = y at *
  go_enter Tryd.func49, Tryd.ntmps49
  go_wp2_with fail
  go_ret
  exact ⟨rfl, rfl⟩
theorem nation_any16 (c : Nat) (h1 : 32 ≤ c) (h2 : c < 127) (w : World) :
    Calls Tryd.prog 49 #[.int .i64 16, .int .i64 c] w fun e w' => e = .returned (.int .i64 (gP 16 c)) ∧ w = w' := by
  by_cases hn : ∀ p ∈ natL 16, c ≠ p.1
  · rw [nat_out 16 (by decide) (by decide) (by decide) c h2 h1 hn]
    exact nat16_rest c hn w
  · obtain ⟨p, hp⟩ := Classical.not_forall.1 hn
    obtain ⟨hp, hc⟩ := Classical.not_imp.1 hp
    have hc' : c = p.1 := Classical.not_not.1 hc
    rw [hc', nat_in 16 (by decide) (by decide) (by decide) p hp]
    simp only [natL, List.mem_cons, List.not_mem_nil, or_false] at hp
    rcases hp with rfl | rfl | rfl | rfl | rfl | rfl | rfl | rfl | rfl | rfl
    · exact nat16_64 w
    · exact nat16_91 w
    · exact nat16_92 w
    · exact nat16_93 w
    · exact nat16_94 w
    · exact nat16_96 w
    · exact nat16_123 w
    · exact nat16_124 w
    · exact nat16_125 w
    · exact nat16_126 w
set_option maxRecDepth 100000 in
theorem nat17_35 (w : World) : Calls Tryd.prog 49 #[.int .i64 17, .int .i64 35] w fun e w' => e = .returned (.int .i64 249) ∧ w = w' := by
  go_enter Tryd.func49, Tryd.ntmps49
  go_wp2_with fail
  go_ret
  exact ⟨rfl, rfl⟩
set_option maxRecDepth 100000 in
theorem nat17_64 (w : World) : Calls Tryd.prog 49 #[.int .i64 17, .int .i64 64] w fun e w' => e = .returned (.int .i64 224) ∧ w = w' := by
  go_enter Tryd.func49, Tryd.ntmps49
  go_wp2_with fail
  go_ret
  exact ⟨rfl, rfl⟩
set_option maxRecDepth 100000 in
theorem nat17_91 (w : World) : Calls Tryd.prog 49 #[.int .i64 17, .int .i64 91] w fun e w' => e = .returned (.int .i64 233) ∧ w = w' := by
  go_enter Tryd.func49, Tryd.ntmps49
  go_wp2_with fail
  go_ret
  exact ⟨rfl, rfl⟩
set_option maxRecDepth 100000 in
theorem nat17_92 (w : World) : Calls Tryd.prog 49 #[.int .i64 17, .int .i64 92] w fun e w' => e = .returned (.int .i64 231) ∧ w = w' := by
  go_enter Tryd.func49, Tryd.ntmps49
  go_wp2_with fail
  go_ret
  exact ⟨rfl, rfl⟩
set_option maxRecDepth 100000 in
theorem nat17_93 (w : World) : Calls Tryd.prog 49 #[.int .i64 17, .int .i64 93] w fun e w' => e = .returned (.int .i64 234) ∧ w = w' := by
  go_enter Tryd.func49, Tryd.ntmps49
  go_wp2_with fail
  go_ret
  exact ⟨rfl, rfl⟩
set_option maxRecDepth 100000 in
theorem nat17_94 (w : World) : Calls Tryd.prog 49 #[.int .i64 17, .int .i64 94] w fun e w' => e = .returned (.int .i64 238) ∧ w = w' := by
  go_enter Tryd.func49, Tryd.ntmps49
  go_wp2_with fail
  go_ret
  exact ⟨rfl, rfl⟩
set_option maxRecDepth 100000 in
theorem nat17_95 (w : World) : Calls Tryd.prog 49 #[.int .i64 17, .int .i64 95] w fun e w' => e = .returned (.int .i64 232) ∧ w = w' := by
  go_enter Tryd.func49, Tryd.ntmps49
  go_wp2_with fail
  go_ret
  exact ⟨rfl, rfl⟩
set_option maxRecDepth 100000 in
theorem nat17_96 (w : World) : Calls Tryd.prog 49 #[.int .i64 17, .int .i64 96] w fun e w' => e = .returned (.int .i64 244) ∧ w = w' := by
  go_enter Tryd.func49, Tryd.ntmps49
  go_wp2_with fail
  go_ret
  exact ⟨rfl, rfl⟩
set_option maxRecDepth 100000 in
theorem nat17_123 (w : World) : Calls Tryd.prog 49 #[.int .i64 17, .int .i64 123] w fun e w' => e = .returned (.int .i64 228) ∧ w = w' := by
  go_enter Tryd.func49, Tryd.ntmps49
  go_wp2_with fail
  go_ret
  exact ⟨rfl, rfl⟩
set_option maxRecDepth 100000 in
theorem nat17_124 (w : World) : Calls Tryd.prog 49 #[.int .i64 17, .int .i64 124] w fun e w' => e = .returned (.int .i64 246) ∧ w = w' := by
  go_enter Tryd.func49, Tryd.ntmps49
  go_wp2_with fail
  go_ret
  exact ⟨rfl, rfl⟩
set_option maxRecDepth 100000 in
theorem nat17_125 (w : World) : Calls Tryd.prog 49 #[.int .i64 17, .int .i64 125] w fun e w' => e = .returned (.int .i64 252) ∧ w = w' := by
  go_enter Tryd.func49, Tryd.ntmps49
  go_wp2_with fail
  go_ret
  exact ⟨rfl, rfl⟩
set_option maxRecDepth 100000 in
theorem nat17_126 (w : World) : Calls Tryd.prog 49 #[.int .i64 17, .int .i64 126] w fun e w' => e = .returned (.int .i64 251) ∧ w = w' := by
  go_enter Tryd.func49, Tryd.ntmps49
  go_wp2_with fail
  go_ret
  exact ⟨rfl, rfl⟩
set_option maxRecDepth 100000 in
theorem nat17_rest (c : Nat) (hn : ∀ p ∈ natL 17, c ≠ p.1) (w : World) : Calls Tryd.prog 49 #[.int .i64 17, .int .i64 c] w fun e w' => e = .returned (.int .i64 c) ∧ w = w' := by
  have n35 : ((c : Int) == 35) = false := by rw [beq_eq_false_iff_ne]; have := hn (35, 249) (by decide); simp only at this; omega
  have n64 : ((c : Int) == 64) = false := by rw [beq_eq_false_iff_ne]; have := hn (64, 224) (by decide); simp only at this; omega
  have n91 : ((c : Int) == 91) = false := by rw [beq_eq_false_iff_ne]; have := hn (91, 233) (by decide); simp only at this; omega
  have n92 : ((c : Int) == 92) = false := by rw [beq_eq_false_iff_ne]; have := hn (92, 231) (by decide); simp only at this; omega
  have n93 : ((c : Int) == 93) = false := by rw [beq_eq_false_iff_ne]; have := hn (93, 234) (by decide); simp only at this; omega
  have n94 : ((c : Int) == 94) = false := by rw [beq_eq_false_iff_ne]; have := hn (94, 238) (by decide); simp only at this; omega
  have n95 : ((c : Int) == 95) = false := by rw [beq_eq_false_iff_ne]; have := hn (95, 232) (by decide); simp only at this; omega
  have n96 : ((c : Int) == 96) = false := by rw [beq_eq_false_iff_ne]; have := hn (96, 244) (by decide); simp only at this; omega
  have n123 : ((c : Int) == 123) = false := by rw [beq_eq_false_iff_ne]; have := hn (123, 228) (by decide); simp only at this; omega
  have n124 : ((c : Int) == 124) = false := by rw [beq_eq_false_iff_ne]; have := hn (124, 246) (by decide); simp only at this; omega
  have n125 : ((c : Int) == 125) = false := by rw [beq_eq_false_iff_ne]; have := hn (125, 252) (by decide); simp only at this; omega
  have n126 : ((c : Int) == 126) = false := by rw [beq_eq_false_iff_ne]; have := hn (126, 251) (by decide); simp only at this; omega
  clear hn
  generalize (c : Int) = y at *
  go_enter Tryd.func49, Tryd.ntmps49
  go_wp2_with fail
  go_ret
  exact ⟨rfl, rfl⟩
theorem nation_any17 (c : Nat) (h1 : 32 ≤ c) (h2 : c < 127) (w : World) :
    Calls Tryd.prog 49 #[.int .i64 17, .int .i64 c] w fun e w' => e = .returned (.int .i64 (gP 17 c)) ∧ w = w' := by
  by_cases hn : ∀ p ∈ natL 17, c ≠ p.1
  · rw [nat_out 17 (by decide) (by decide) (by decide) c h2 h1 hn]
    exact nat17_rest c hn w
  · obtain ⟨p, hp⟩ := Classical.not_forall.1 hn
    obtain ⟨hp, hc⟩ := Classical.not_imp.1 hp
    have hc' : c = p.1 := Classical.not_not.1 hc
    rw [hc', nat_in 17 (by decide) (by decide) (by decide) p hp]
    simp only [natL, List.mem_cons, List.not_mem_nil, or_false] at hp
    rcases hp with rfl | rfl | rfl | rfl | rfl | rfl | rfl | rfl | rfl | rfl | rfl | rfl
    · exact nat17_35 w
    · exact nat17_64 w
    · exact nat17_91 w
    · exact nat17_92 w
    · exact nat17_93 w
    · exact nat17_94 w
    · exact nat17_95 w
    · exact nat17_96 w
    · exact nat17_123 w
    · exact nat17_124 w
    · exact nat17_125 w
    · exact nat17_126 w
end Go.Proofs.YtandfpghjbbalaaDoor

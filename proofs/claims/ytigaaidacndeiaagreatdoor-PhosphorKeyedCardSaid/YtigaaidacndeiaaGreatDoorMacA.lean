/-
  A text cut at its first semicolon; what data of a macro begin with, plainly.
-/
import Derived.Test.YtigaaidacndeiaaGreatDoorHexE
import Derived.Lib.Bytealg
import Derived.Lib.Strings
import Derived.Laws.Externs
import Derived.Laws.Strings3
namespace Go.Proofs.YtigaaidacndeiaaGreatDoor

open Go Go.RowKit

theorem idx59 (l : List UInt8) : (Lib.indexByte l 59 = -1 ∧ ∀ b ∈ l, b ≠ 59) ∨ ∃ i : Nat, Lib.indexByte l 59 = i ∧ i < l.length ∧ l = l.take i ++ 59 :: l.drop (i + 1) ∧ ∀ b ∈ l.take i, b ≠ 59 := by
  induction l with
  | nil => exact .inl ⟨rfl, by simp⟩
  | cons c l ih =>
    by_cases hc : c = 59
    · subst hc
      exact .inr ⟨0, by simp [Lib.indexByte], by simp, by simp, by simp⟩
    · have hb : (c == 59) = false := by simpa using hc
      rcases ih with ⟨h1, h2⟩ | ⟨i, h1, h2, h3, h4⟩
      · refine .inl ⟨by simp [Lib.indexByte, hb, h1], fun b hm => ?_⟩
        rcases List.mem_cons.1 hm with rfl | hm
        · exact hc
        · exact h2 b hm
      · refine .inr ⟨i + 1, ?_, by simp; omega, ?_, fun b hm => ?_⟩
        · have : ((i : Int) == -1) = false := by rw [beq_eq_false_iff_ne]; omega
          simp [Lib.indexByte, hb, h1, this]
        · rw [List.take_succ_cons, List.drop_succ_cons, List.cons_append, ← h3]
        · rw [List.take_succ_cons] at hm
          rcases List.mem_cons.1 hm with rfl | hm
          · exact hc
          · exact h4 b hm
set_option maxHeartbeats 1000000 in
set_option maxRecDepth 100000 in
theorem iByte_any (s : ByteArray) (c : Int) (w : World) :
    Calls Tryz.prog 128 #[.string s, .int .u8 c] w fun e w' => e = .returned (.int .i64 (Lib.indexByte s.data.toList c.toNat.toUInt8)) ∧ w = w' := by
  go_enter Tryz.func128, Tryz.ntmps128
  go_wp2
  rw [run_callFunc_extern Tryz.func134 (by kernel_rfl) (by kernel_rfl) (by kernel_rfl) (e := Extern.BytealgIndexByte.indexByte) (by kernel_rfl), Lib.run_indexByteString]
  simp only [Result.andThen]
  rw [Oper.upon_value]
  go_wp2
  go_ret
  exact ⟨rfl, rfl⟩



/-- A list cut at its first semicolon. -/
def cutL : List Nat → List Nat × List Nat × Bool
  | [] => ([], [], false)
  | c :: l => if c = 59 then ([], l, true) else (c :: (cutL l).1, (cutL l).2.1, (cutL l).2.2)
theorem natL_ext (s : ByteArray) (a b : Nat) : natL (s.extract a b).data.toList = ((natL s.data.toList).take b).drop a := by
  rw [ByteArray.data_extract, Array.toList_extract, List.extract_eq_take_drop]
  unfold natL
  rw [List.map_take, List.map_drop, List.drop_take]
theorem cutL_no (l : List Nat) (h : ∀ c ∈ l, c ≠ 59) : cutL l = (l, [], false) := by
  induction l with
  | nil => rfl
  | cons c l ih =>
    have hc := h c (by simp)
    unfold cutL
    rw [if_neg hc, ih (fun x hx => h x (by simp [hx]))]
theorem cutL_yes (l : List Nat) (i : Nat) (r : List Nat) (he : l = l.take i ++ 59 :: r) (h : ∀ c ∈ l.take i, c ≠ 59) : cutL l = (l.take i, r, true) := by
  generalize l.take i = p at *
  subst he
  induction p with
  | nil => simp [cutL]
  | cons c p ih =>
    have hc := h c (by simp)
    show cutL (c :: (p ++ 59 :: r)) = _
    unfold cutL
    rw [if_neg hc, ih (fun x hx => h x (by simp [hx]))]

end Go.Proofs.YtigaaidacndeiaaGreatDoor

/-
  A text cut at its first semicolon; what data of a macro begin with, plainly.
-/
import Derived.Test.YtlhabooeeohniaaDoorHexE
import Derived.Lib.Bytealg
import Derived.Lib.Strings
import Derived.Laws.Externs
import Derived.Laws.Strings3
namespace Go.Proofs.YtlhabooeeohniaaDoor

open Go Go.RowKit

theorem idx59 (l : List UInt8) : (Lib.indexByte l 59 = -1 ∧ ∀ b ∈ l, b ≠ 59) ∨ ∃ i : Nat, Lib.indexByte l 59 = i ∧ i < l.length ∧ l = l.take i ++ 59 :: l.drop (i + 1) ∧ ∀ b ∈ l.take i, b ≠ 59 := by
  induction l with
  | nil => exact .inl ⟨rfl, by simp⟩
  | cons c l ih =>
    by_cases hc : c = 59
    · subst hc
      exact .inr ⟨0, by simp [Lib.indexByte], by simp, by simp, by simp⟩
    · have hb : (c == 59) = false := by simpa using hc
      rcases ih with ⟨h1, h2⟩ | ⟨i, h1, h2, h3, h4⟩
      · refine .inl ⟨by simp [Lib.indexByte, hb, h1], fun b hm => ?_⟩
        rcases List.mem_cons.1 hm with rfl | hm
        · exact hc
        · exact h2 b hm
      · refine .inr ⟨i + 1, ?_, by simp; omega, ?_, fun b hm => ?_⟩
        · have : ((i : Int) == -1) = false := by rw [beq_eq_false_iff_ne]; omega
          simp [Lib.indexByte, hb, h1, this]
        · rw [List.take_succ_cons, List.drop_succ_cons, List.cons_append, ← h3]
        · rw [List.take_succ_cons] at hm
          rcases List.mem_cons.1 hm with rfl | hm
          · exact hc
          · exact h4 b hm
set_option maxHeartbeats 1000000 in
set_option maxRecDepth 100000 in
theorem iByte_any (s : ByteArray) (c : Int) (w : World) :
    Calls Tryd.prog 53 #[.string s, .int .u8 c] w fun e w' => e = .returned (.int .i64 (Lib.indexByte s.data.toList c.toNat.toUInt8)) ∧ w = w' := by
  go_enter Tryd.func53, Tryd.ntmps53
  go_wp2
  rw [run_callFunc_extern Tryd.func60 (by kernel_rfl) (by kernel_rfl) (by kernel_rfl) (e := Extern.BytealgIndexByte.indexByte) (by kernel_rfl), Lib.run_indexByteString]
  simp only [Result.andThen]
  rw [Oper.upon_value]
  go_wp2
  go_ret
  exact ⟨rfl, rfl⟩
set_option maxHeartbeats 2000000 in
set_option maxRecDepth 100000 in
theorem index59_any (s : ByteArray) (w : World) :
    Calls Tryd.prog 46 #[.string s, .string ⟨#[59]⟩] w fun e w' => e = .returned (.int .i64 (Lib.indexByte s.data.toList 59)) ∧ w = w' := by
  have HI := Lib.hid (fun W => iByte_any s 59 W)
  rw [show (59 : Int).toNat.toUInt8 = 59 from rfl] at HI
  by_cases h : s = ⟨#[59]⟩
  · subst h
    go_enter Tryd.func46, Tryd.ntmps46
    go_wp2_with (go_at_call 53; refine (HI.out _).mono ?_; rintro e w1 ⟨rfl, rfl⟩)
    go_ret
    exact ⟨rfl, rfl⟩
  · have hne : (([59] : List UInt8) == s.toList) = false := by
      rw [beq_eq_false_iff_ne]
      intro e
      apply h
      have e2 : s.data.toList = [59] := by rw [← ByteArray.toList_eq]; exact e.symm
      obtain ⟨⟨l⟩⟩ := s
      simp at e2
      rw [e2]
    clear h
    generalize Lib.indexByte s.data.toList 59 = x at *
    go_enter Tryd.func46, Tryd.ntmps46
    go_wp2_with (go_at_call 53; refine (HI.out _).mono ?_; rintro e w1 ⟨rfl, rfl⟩)
    go_ret
    exact ⟨rfl, rfl⟩
set_option maxHeartbeats 2000000 in
theorem cut59_no (s : ByteArray) (h : Lib.indexByte s.data.toList 59 = -1) (w : World) :
    Calls Tryd.prog 34 #[.string s, .string ⟨#[59]⟩] w fun e w' => e = .returned (.tuple #[.string s, .string ⟨#[]⟩, .bool false]) ∧ Below w.heap.size w w' := by
  have HI := Lib.hid (fun W => index59_any s W)
  rw [h] at HI
  clear h
  have HC : Hid (∀ W, Calls Tryd.prog 41 #[.string s, .string ⟨#[59]⟩] W fun e w' => e = .returned (.tuple #[.string s, .string ⟨#[]⟩, .bool false]) ∧ Below W.heap.size W w') := Lib.hid (fun W => by
    go_enter Tryd.func41, Tryd.ntmps41
    go_wp2_with (go_at_call 46; refine (HI.out _).mono ?_; rintro e w1 ⟨rfl, rfl⟩)
    go_ret3
    exact ⟨rfl, Below.refl _ _⟩)
  go_enter Tryd.func34, Tryd.ntmps34
  go_wp2_with (go_at_call 41; refine (HC.out _).mono ?_; rintro e w1 ⟨rfl, hb1⟩; have HB := Lib.hid hb1; clear hb1)
  go_ret3
  exact ⟨rfl, HB.out⟩
set_option maxHeartbeats 2000000 in
theorem cut59_yes (s : ByteArray) (i : Nat) (h : Lib.indexByte s.data.toList 59 = i) (hi : i < s.size) (hs : s.size ≤ 100000) (w : World) :
    Calls Tryd.prog 34 #[.string s, .string ⟨#[59]⟩] w fun e w' => e = .returned (.tuple #[.string (s.extract 0 i), .string (s.extract (i + 1) s.size), .bool true]) ∧ Below w.heap.size w w' := by
  have HI := Lib.hid (fun W => index59_any s W)
  rw [h] at HI
  clear h
  have HC : Hid (∀ W, Calls Tryd.prog 41 #[.string s, .string ⟨#[59]⟩] W fun e w' => e = .returned (.tuple #[.string (s.extract 0 i), .string (s.extract (i + 1) s.size), .bool true]) ∧ Below W.heap.size W w') := Lib.hid (fun W => by
    have c1 : (0 : Int) ≤ ↑i := by omega
    have c2 : (↑i : Int) ≤ ↑s.size := by omega
    have c3 : (0 : Int) ≤ ↑i + 1 := by omega
    have c4 : (↑i + 1 : Int) ≤ ↑s.size := by omega
    go_enter Tryd.func41, Tryd.ntmps41
    go_wp2_with (go_at_call 46; refine (HI.out _).mono ?_; rintro e w1 ⟨rfl, rfl⟩)
    go_quiet (fail)
    go_wp2
    go_ret3
    exact ⟨rfl, below_drewN (Below.refl _ _) _⟩)
  go_enter Tryd.func34, Tryd.ntmps34
  go_wp2_with (go_at_call 41; refine (HC.out _).mono ?_; rintro e w1 ⟨rfl, hb1⟩; have HB := Lib.hid hb1; clear hb1)
  go_ret3
  exact ⟨rfl, HB.out⟩

/-- A list cut at its first semicolon. -/
def cutL : List Nat → List Nat × List Nat × Bool
  | [] => ([], [], false)
  | c :: l => if c = 59 then ([], l, true) else (c :: (cutL l).1, (cutL l).2.1, (cutL l).2.2)
theorem natL_ext (s : ByteArray) (a b : Nat) : natL (s.extract a b).data.toList = ((natL s.data.toList).take b).drop a := by
  rw [ByteArray.data_extract, Array.toList_extract, List.extract_eq_take_drop]
  unfold natL
  rw [List.map_take, List.map_drop, List.drop_take]
theorem cutL_no (l : List Nat) (h : ∀ c ∈ l, c ≠ 59) : cutL l = (l, [], false) := by
  induction l with
  | nil => rfl
  | cons c l ih =>
    have hc := h c (by simp)
    unfold cutL
    rw [if_neg hc, ih (fun x hx => h x (by simp [hx]))]
theorem cutL_yes (l : List Nat) (i : Nat) (r : List Nat) (he : l = l.take i ++ 59 :: r) (h : ∀ c ∈ l.take i, c ≠ 59) : cutL l = (l.take i, r, true) := by
  generalize l.take i = p at *
  subst he
  induction p with
  | nil => simp [cutL]
  | cons c p ih =>
    have hc := h c (by simp)
    show cutL (c :: (p ++ 59 :: r)) = _
    unfold cutL
    rw [if_neg hc, ih (fun x hx => h x (by simp [hx]))]
/-- What strings.Cut answers. -/
theorem cutS_any (s : ByteArray) (hs : s.size ≤ 100000) (w : World) :
    Calls Tryd.prog 34 #[.string s, .string ⟨#[59]⟩] w fun e w' => ∃ a b : ByteArray, e = .returned (.tuple #[.string a, .string b, .bool (cutL (natL s.data.toList)).2.2]) ∧ natL a.data.toList = (cutL (natL s.data.toList)).1 ∧ natL b.data.toList = (cutL (natL s.data.toList)).2.1 ∧ a.size + b.size ≤ s.size ∧ Below w.heap.size w w' := by
  rcases idx59 s.data.toList with ⟨h1, h2⟩ | ⟨i, h1, h2, h3, h4⟩
  · refine (cut59_no s h1 w).mono fun e w' ⟨he, hb⟩ => ?_
    have hc : cutL (natL s.data.toList) = (natL s.data.toList, [], false) := cutL_no _ (fun c hc => by
      unfold natL at hc
      obtain ⟨u, hu, rfl⟩ := List.mem_map.1 hc
      intro h
      exact h2 u hu (UInt8.toNat_inj.1 h))
    rw [hc]
    exact ⟨s, ⟨#[]⟩, he, rfl, rfl, Nat.le_refl _, hb⟩
  · have hi : i < s.size := by rw [← natB_len, natL_len]; exact h2
    refine (cut59_yes s i h1 hi hs w).mono fun e w' ⟨he, hb⟩ => ?_
    have hn : natL s.data.toList = (natL s.data.toList).take i ++ 59 :: (natL s.data.toList).drop (i + 1) := by
      conv => lhs; rw [h3]
      unfold natL
      rw [List.map_append, List.map_cons, List.map_take, List.map_drop]
      rfl
    have hc := cutL_yes (natL s.data.toList) i _ hn (fun c hc => by
      unfold natL at hc
      rw [← List.map_take] at hc
      obtain ⟨u, hu, rfl⟩ := List.mem_map.1 hc
      intro h
      exact h4 u hu (UInt8.toNat_inj.1 h))
    rw [hc]
    refine ⟨_, _, he, ?_, ?_, ?_, hb⟩
    · rw [natL_ext, List.drop_zero]
    · rw [natL_ext, List.take_of_length_le (by rw [natB_len]; exact Nat.le_refl _)]
    · rw [ByteArray.size_extract, ByteArray.size_extract]; omega
end Go.Proofs.YtlhabooeeohniaaDoor

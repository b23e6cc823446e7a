/-
  The walks of a set's face, of what is a glyph's, of a text's rune, of a code's place.
  The walks of a set's own glyphs, and of a code's glyph; how many sets there are, a set's name, whether it is a national one.
  The walk of a code's glyph.
-/
import Derived.Test.YtfnamfkjbkhgeaaGreatDoorChsA
namespace Go.Proofs.YtfnamfkjbkhgeaaGreatDoor

open Go Go.RowKit

set_option maxHeartbeats 1000000 in
theorem isSet_any (x : Int) (w : World) :
    Calls Tryz.prog 131 #[.int .i64 x] w fun e w' => e = .returned (.bool (decide (1 ≤ setN x))) ∧ w = w' := by
  have hc : (decide (1 ≤ setN x) = true ∧ decide (1 ≤ x) = true ∧ decide (x ≤ 17) = true) ∨ (decide (1 ≤ setN x) = false ∧ decide (1 ≤ x) = false) ∨ (decide (1 ≤ setN x) = false ∧ decide (1 ≤ x) = true ∧ decide (x ≤ 17) = false) := by
    unfold setN
    simp only [decide_eq_true_iff, decide_eq_false_iff_not]
    split <;> omega
  rcases hc with ⟨e, h1, h2⟩ | ⟨e, h1⟩ | ⟨e, h1, h2⟩
  all_goals
    rw [e]
    clear e
    go_enter Tryz.func131, Tryz.ntmps131
    go_wp2_with fail
    go_ret
    exact ⟨rfl, rfl⟩

set_option maxRecDepth 100000 in
set_option maxHeartbeats 2000000 in
theorem faceOf_any (x : Int) (w : World) (ht : Faces w) :
    Calls Tryz.prog 103 #[.int .i64 x] w fun e w' => e = .returned (faceV (setN x)) ∧ Below w.heap.size w w' := by
  have HI := Lib.hid (fun W => isSet_any x W)
  unfold faceV
  by_cases h : 1 ≤ x ∧ x ≤ 17
  · obtain ⟨h1, h2, h3⟩ := setN_in x h
    rw [decide_eq_true h2] at HI
    generalize setN x = k at *
    subst h1
    obtain ⟨c0, c1, c2, c3⟩ := (ht.below ht.1 (show Below w.heap.size w (w.alloc (.cells #[.string ⟨#[]⟩, .string ⟨#[]⟩, .bool false, .int .i32 0] 175)) from (Below.refl _ _).alloc (Nat.le_refl _) _)).at_ k (by omega)
    generalize nmP k = nm at *
    generalize idsP k = ids at *
    generalize wideP k = wd at *
    generalize aboP k = ab at *
    clear h
    go_enter Tryz.func103, Tryz.ntmps103
    go_wp2_with fail
    refine (HI.out _).mono ?_
    rintro e w1 ⟨rfl, rfl⟩
    go_wp2_with fail
    exact bodyPost_ret (v := .agg #[.string nm, .string ids, .bool wd, .int .i32 ab]) (by simp [results, Tryz.results103, go_sem]) rfl ⟨rfl, (Below.refl _ _).alloc (Nat.le_refl _) _⟩
  · rw [setN_out x h] at HI ⊢
    rw [show decide (1 ≤ 0) = false from rfl] at HI
    clear h
    go_enter Tryz.func103, Tryz.ntmps103
    go_wp2_with fail
    refine (HI.out _).mono ?_
    rintro e w1 ⟨rfl, rfl⟩
    go_wp2_with fail
    exact bodyPost_ret (v := faceV 0) (by simp [results, Tryz.results103, go_sem, faceV]; try exact ⟨rfl, rfl, rfl, rfl⟩) rfl ⟨rfl, (Below.refl _ _).alloc (Nat.le_refl _) _⟩


set_option maxHeartbeats 1000000 in
set_option maxRecDepth 100000 in
theorem cIndexByte_any (s : ByteArray) (c : Int) (w : World) :
    Calls Tryz.prog 167 #[.string s, .int .u8 c] w fun e w' => e = .returned (.int .i64 (Lib.indexByte s.data.toList c.toNat.toUInt8)) ∧ w = w' := by
  go_enter Tryz.func167, Tryz.ntmps167
  go_wp2
  rw [run_callFunc_extern Tryz.func191 (by kernel_rfl) (by kernel_rfl) (by kernel_rfl) (e := Extern.BytealgIndexByte.indexByte) (by kernel_rfl), Lib.run_indexByteString]
  simp only [Result.andThen]
  rw [Oper.upon_value]
  go_wp2
  go_ret
  exact ⟨rfl, rfl⟩
set_option maxHeartbeats 1000000 in
theorem cStrIndexByte_any (s : ByteArray) (c : Int) (w : World) :
    Calls Tryz.prog 197 #[.string s, .int .u8 c] w fun e w' => e = .returned (.int .i64 (Lib.indexByte s.data.toList c.toNat.toUInt8)) ∧ w = w' := by
  have HI := Lib.hid (fun W => cIndexByte_any s c W)
  generalize Lib.indexByte s.data.toList c.toNat.toUInt8 = x at *
  go_enter Tryz.func197, Tryz.ntmps197
  go_wp2_with (go_at_call 167; refine (HI.out _).mono ?_; rintro e w1 ⟨rfl, rfl⟩)
  go_ret
  exact ⟨rfl, rfl⟩
end Go.Proofs.YtfnamfkjbkhgeaaGreatDoor

namespace Go.Proofs.YtfnamfkjbkhgeaaGreatDoor

open Go Go.RowKit



end Go.Proofs.YtfnamfkjbkhgeaaGreatDoor

namespace Go.Proofs.YtfnamfkjbkhgeaaGreatDoor

open Go Go.RowKit

theorem and_bits : ∀ n : Nat, n < 256 → bits .andNot .u8 (n : Int) 128 = ((n % 128 : Nat) : Int) := by decide +kernel
theorem run_len : ∀ k, k < 18 → (runP k).length ≤ 1000 := by decide +kernel

end Go.Proofs.YtfnamfkjbkhgeaaGreatDoor

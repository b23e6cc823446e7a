/-
  The walks of a set's face, of what is a glyph's, of a text's rune, of a code's place.
-/
import Derived.Test.YtandfpghjbbalaaDoorChsA
namespace Go.Proofs.YtandfpghjbbalaaDoor
open Go Go.RowKit

set_option maxHeartbeats 1000000 in
theorem isSet_any (x : Int) (w : World) :
    Calls Tryd.prog 61 #[.int .i64 x] w fun e w' => e = .returned (.bool (decide (1 ≤ setN x))) ∧ w = w' := by
  have hc : (decide (1 ≤ setN x) = true ∧ decide (1 ≤ x) = true ∧ decide (x ≤ 17) = true) ∨ (decide (1 ≤ setN x) = false ∧ decide (1 ≤ x) = false) ∨ (decide (1 ≤ setN x) = false ∧ decide (1 ≤ x) = true ∧ decide (x ≤ 17) = false) := by
    unfold setN
    simp only [decide_eq_true_iff, decide_eq_false_iff_not]
    split <;> omega
  rcases hc with ⟨e, h1, h2⟩ | ⟨e, h1⟩ | ⟨e, h1, h2⟩
  all_goals
    rw [e]
    clear e
    go_enter Tryd.func61, Tryd.ntmps61
    go_wp2_with fail
    go_ret
    exact ⟨rfl, rfl⟩

set_option maxRecDepth 100000 in
set_option maxHeartbeats 2000000 in
theorem faceOf_any (x : Int) (w : World) (ht : Faces w) :
    Calls Tryd.prog 42 #[.int .i64 x] w fun e w' => e = .returned (faceV (setN x)) ∧ Below w.heap.size w w' := by
  have HI := Lib.hid (fun W => isSet_any x W)
  unfold faceV
  by_cases h : 1 ≤ x ∧ x ≤ 17
  · obtain ⟨h1, h2, h3⟩ := setN_in x h
    rw [decide_eq_true h2] at HI
    generalize setN x = k at *
    subst h1
    obtain ⟨c0, c1, c2, c3⟩ := (ht.below ht.1 (show Below w.heap.size w (w.alloc (.cells #[.string ⟨#[]⟩, .string ⟨#[]⟩, .bool false, .int .i32 0] 65)) from (Below.refl _ _).alloc (Nat.le_refl _) _)).at_ k (by omega)
    generalize nmP k = nm at *
    generalize idsP k = ids at *
    generalize wideP k = wd at *
    generalize aboP k = ab at *
    clear h
    go_enter Tryd.func42, Tryd.ntmps42
    go_wp2_with fail
    refine (HI.out _).mono ?_
    rintro e w1 ⟨rfl, rfl⟩
    go_wp2_with fail
    exact bodyPost_ret (v := .agg #[.string nm, .string ids, .bool wd, .int .i32 ab]) (by simp [results, Tryd.results42, go_sem]) rfl ⟨rfl, (Below.refl _ _).alloc (Nat.le_refl _) _⟩
  · rw [setN_out x h] at HI ⊢
    rw [show decide (1 ≤ 0) = false from rfl] at HI
    clear h
    go_enter Tryd.func42, Tryd.ntmps42
    go_wp2_with fail
    refine (HI.out _).mono ?_
    rintro e w1 ⟨rfl, rfl⟩
    go_wp2_with fail
    exact bodyPost_ret (v := faceV 0) (by simp [results, Tryd.results42, go_sem, faceV]; try exact ⟨rfl, rfl, rfl, rfl⟩) rfl ⟨rfl, (Below.refl _ _).alloc (Nat.le_refl _) _⟩

set_option maxRecDepth 100000 in
set_option maxHeartbeats 1000000 in
theorem nth_any (s : ByteArray) (L : List Int) (hd : decB s 0 L = true) (k : Nat) (hk : k < L.length) (hl : L.length ≤ 1000) (w : World) :
    Calls Tryd.prog 45 #[.string s, .int .i64 k] w fun e w' => e = .returned (.int .i32 (L[k])) ∧ Below w.heap.size w w' := by
  have HD := Lib.hid hd
  obtain ⟨z, hz⟩ : ∃ z, L[k]? = some z := ⟨_, List.getElem?_eq_getElem hk⟩
  have hz2 : L[k] = z := by rw [List.getElem?_eq_getElem hk] at hz; exact Option.some.inj hz
  rw [hz2]
  have HZ := Lib.hid hz
  clear hd hz hz2
  go_enter Tryd.func45, Tryd.ntmps45
  go_wp2_with fail
  go_loopw [1] (fun a wr => ∃ (pos j : Nat) (R : List Int), wr = w.iter s pos ∧ a = .int .i64 j ∧ decB s pos R = true ∧ R[j]? = some z ∧ R.length ≤ 1000) (fun a _ => (intOf a).toNat)
  case atStart => exact ⟨0, k, L, rfl, rfl, HD.out, HZ.out, hl⟩
  case round =>
    obtain ⟨pos, j, R, rfl, rfl, hR, hj, hlR⟩ := hrel
    cases R with
    | nil => simp at hj
    | cons r R =>
      obtain ⟨hp, hr, hR2⟩ := decB_cons hR
      have hnx : ∀ ty, (Instr.next (.pointer (some ⟨w.heap.size, 0, none⟩)) true ty).run Tryd.prog (w.iter s pos) = _ := fun ty => run_next_any w s pos ty hp
      rw [hr] at hnx
      have HR := Lib.hid hR2
      have HJ := Lib.hid hj
      have HB : Hid (∀ p, Below w.heap.size w (w.iter s p)) := Lib.hid (fun p => (Below.refl _ _).alloc (Nat.le_refl _) _)
      clear hR hR2 hj hr
      generalize pos + (Utf8.decode s pos).2 = p2 at *
      by_cases h0 : j = 0
      · subst h0
        have e := HJ.out
        obtain rfl : r = z := by simpa using e
        go_wp2_with fail
        go_ret
        exact ⟨rfl, HB.out _⟩
      · have g1 : ((j : Int) == 0) = false := by rw [beq_eq_false_iff_ne]; omega
        obtain ⟨i, rfl⟩ : ∃ i, j = i + 1 := ⟨j - 1, by omega⟩
        have HJ2 : Hid (R[i]? = some z) := Lib.hid (by have := HJ.out; simpa using this)
        have hlt : i < R.length := by
          have := HJ2.out
          rcases Nat.lt_or_ge i R.length with h | h
          · exact h
          · rw [List.getElem?_eq_none h] at this; cases this
        have hlR2 : R.length ≤ 1000 := by rw [List.length_cons] at hlR; omega
        have hw : IntKind.i64.wrap (((i + 1 : Nat) : Int) - 1) = i := (IntWalk.i64_in _ (by omega)).trans (by omega)
        go_wp2_with fail
        go_roundw
        case rel => exact ⟨p2, i, R, rfl, by first | rfl | go_num, HR.out, HJ2.out, hlR2⟩
        case measure => simp [intOf]

set_option maxHeartbeats 1000000 in
set_option maxRecDepth 100000 in
theorem indexByte_any (s : ByteArray) (c : Int) (w : World) :
    Calls Tryd.prog 62 #[.string s, .int .u8 c] w fun e w' => e = .returned (.int .i64 (Lib.indexByte s.data.toList c.toNat.toUInt8)) ∧ w = w' := by
  go_enter Tryd.func62, Tryd.ntmps62
  go_wp2
  rw [run_callFunc_extern Tryd.func67 (by kernel_rfl) (by kernel_rfl) (by kernel_rfl) (e := Extern.BytealgIndexByte.indexByte) (by kernel_rfl), Lib.run_indexByteString]
  simp only [Result.andThen]
  rw [Oper.upon_value]
  go_wp2
  go_ret
  exact ⟨rfl, rfl⟩
set_option maxHeartbeats 1000000 in
theorem strIndexByte_any (s : ByteArray) (c : Int) (w : World) :
    Calls Tryd.prog 44 #[.string s, .int .u8 c] w fun e w' => e = .returned (.int .i64 (Lib.indexByte s.data.toList c.toNat.toUInt8)) ∧ w = w' := by
  have HI := Lib.hid (fun W => indexByte_any s c W)
  generalize Lib.indexByte s.data.toList c.toNat.toUInt8 = x at *
  go_enter Tryd.func44, Tryd.ntmps44
  go_wp2_with (go_at_call 62; refine (HI.out _).mono ?_; rintro e w1 ⟨rfl, rfl⟩)
  go_ret
  exact ⟨rfl, rfl⟩
end Go.Proofs.YtandfpghjbbalaaDoor

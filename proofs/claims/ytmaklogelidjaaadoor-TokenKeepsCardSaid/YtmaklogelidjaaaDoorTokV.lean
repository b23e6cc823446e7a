/-
  Tokens, the document's own answers: an escape and a byte; what kind of function it is.
-/
import Derived.Test.YtmaklogelidjaaaDoorTokU
namespace Go.Proofs.YtmaklogelidjaaaDoor

open Go Go.RowKit

set_option maxRecDepth 100000 in
set_option maxHeartbeats 4000000 in
theorem refPair_any (c : Nat) (hc : c < 256) (eight : Bool) (w : World) : Calls Tryd.prog 22 #[.int .u8 (c : Int), .bool eight] w fun e w' => ∃ v, e = .returned v ∧ OByt w' w.heap.size v (leadL c eight) ∧ Below w.heap.size w w' := by
  have HB := Lib.hid (fun o => (Below.refl w.heap.size w).alloc (Nat.le_refl _) o)
  have HO2 : Hid (OByt (w.alloc (.cells #[.int .u8 27, .int .u8 (c : Int)] 5)) w.heap.size (.slice (some ⟨w.heap.size, 0, none⟩) 2 2) [27, c]) := Lib.hid (World.ownsRow_lit (e := 5) (size := 1) w #[.int .u8 27, .int .u8 (c : Int)] 2 (Nat.le_refl _) (by unfold maxLen; omega) rfl)
  cases eight with
  | false =>
    rw [show leadL c false = [27, c] from rfl]
    go_enter Tryd.func22, Tryd.ntmps22
    go_wp2_with fail
    go_ret
    exact ⟨_, rfl, HO2.out, HB.out _⟩
  | true =>
    by_cases h : 64 ≤ c ∧ c ≤ 95
    · have h1 : decide ((64 : Int) ≤ (c : Int)) = true := by simp; omega
      have h2 : decide ((c : Int) < 96) = true := by simp; omega
      have hl : leadL c true = [c + 64] := if_pos ⟨rfl, h⟩
      rw [hl]
      have hw : IntKind.u8.wrap ((c : Int) + 64) = ((c + 64 : Nat) : Int) := by rw [IntKind.wrap_u8]; omega
      have HO1 : Hid (OByt (w.alloc (.cells #[.int .u8 ((c + 64 : Nat) : Int)] 5)) w.heap.size (.slice (some ⟨w.heap.size, 0, none⟩) 1 1) [c + 64]) := Lib.hid (World.ownsRow_lit (e := 5) (size := 1) w #[.int .u8 ((c + 64 : Nat) : Int)] 1 (Nat.le_refl _) (by unfold maxLen; omega) rfl)
      generalize c + 64 = d at *
      clear h hl
      go_enter Tryd.func22, Tryd.ntmps22
      go_wp2_with fail
      go_ret
      exact ⟨_, rfl, HO1.out, HB.out _⟩
    · have hl : leadL c true = [27, c] := if_neg (fun x => h x.2)
      rw [hl]
      have hh : decide ((64 : Int) ≤ (c : Int)) = false ∨ (decide ((64 : Int) ≤ (c : Int)) = true ∧ decide ((c : Int) < 96) = false) := by
        by_cases h1 : 64 ≤ c
        · exact .inr ⟨by simp; omega, by simp; omega⟩
        · exact .inl (by simp; omega)
      clear h hl
      rcases hh with h1 | ⟨h1, h2⟩
      all_goals
        go_enter Tryd.func22, Tryd.ntmps22
        go_wp2_with fail
        go_ret
        exact ⟨_, rfl, HO2.out, HB.out _⟩
theorem conv_new1 (W : World) (n : Nat) : (convert 23 9 (.slice (some ⟨W.heap.size, 0, none⟩) 1 1)).run Tryd.prog (W.alloc (.cells #[.int .u8 (n : Int)] 5)) = .ok (.string (bstr [n])) (W.alloc (.cells #[.int .u8 (n : Int)] 5)) := by
  have h : RByt (W.alloc (.cells #[.int .u8 (n : Int)] 5)) (some ⟨W.heap.size, 0, none⟩) [n] := Reads.of_own (World.ownsRow_lit (e := 5) (size := 1) W #[.int .u8 (n : Int)] 1 (Nat.le_refl _) (by unfold maxLen; omega) rfl)
  exact conv_by h 1
theorem bstr_append (a b : List Nat) : bstr (a ++ b) = bstr a ++ bstr b := by
  apply ByteArray.ext
  apply Array.ext'
  rw [bstr_list, List.map_append]
  show _ = (bstr a ++ bstr b).data.toList
  rw [ByteArray.data_append, Array.toList_append, bstr_list, bstr_list]
theorem bstr_nat (s : ByteArray) : bstr (natL s.data.toList) = s := by
  apply ByteArray.ext
  apply Array.ext'
  rw [bstr_list]
  unfold natL
  rw [List.map_map]
  have : (UInt8.ofNat ∘ UInt8.toNat) = id := by funext x; simp
  rw [this, List.map_id]
theorem id_parts (c m : Nat) (s : ByteArray) : bstr (signsL c m [] s) = (if m = 0 then (ByteArray.mk #[]) else bstr [m]) ++ s ++ bstr [c] := by
  unfold signsL
  rw [fmt_none]
  simp only [bstr_append, bstr_nat]
  have e0 : bstr (natL []) = ByteArray.mk #[] := rfl
  rw [e0]
  by_cases h : m = 0
  · rw [if_pos h, if_pos h]
    apply ByteArray.ext; apply Array.ext'
    simp [ByteArray.data_append, bstr]
    rfl
  · rw [if_neg h, if_neg h]
    apply ByteArray.ext; apply Array.ext'
    simp [ByteArray.data_append]


end Go.Proofs.YtmaklogelidjaaaDoor

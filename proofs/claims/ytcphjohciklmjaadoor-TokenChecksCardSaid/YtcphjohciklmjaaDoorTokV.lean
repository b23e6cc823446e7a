/-
  Tokens, the document's own answers: an escape and a byte; what kind of function it is.
-/
import Derived.Test.YtcphjohciklmjaaDoorTokU
namespace Go.Proofs.YtcphjohciklmjaaDoor
open Go Go.RowKit

set_option maxRecDepth 100000 in
set_option maxHeartbeats 4000000 in
theorem refPair_any (c : Nat) (hc : c < 256) (eight : Bool) (w : World) : Calls Tryd.prog 29 #[.int .u8 (c : Int), .bool eight] w fun e w' => ∃ v, e = .returned v ∧ OByt w' w.heap.size v (leadL c eight) ∧ Below w.heap.size w w' := by
  have HB := Lib.hid (fun o => (Below.refl w.heap.size w).alloc (Nat.le_refl _) o)
  have HO2 : Hid (OByt (w.alloc (.cells #[.int .u8 27, .int .u8 (c : Int)] 5)) w.heap.size (.slice (some ⟨w.heap.size, 0, none⟩) 2 2) [27, c]) := Lib.hid (World.ownsRow_lit (e := 5) (size := 1) w #[.int .u8 27, .int .u8 (c : Int)] 2 (Nat.le_refl _) (by unfold maxLen; omega) rfl)
  cases eight with
  | false =>
    rw [show leadL c false = [27, c] from rfl]
    go_enter Tryd.func29, Tryd.ntmps29
    go_wp2_with fail
    go_ret
    exact ⟨_, rfl, HO2.out, HB.out _⟩
  | true =>
    by_cases h : 64 ≤ c ∧ c ≤ 95
    · have h1 : decide ((64 : Int) ≤ (c : Int)) = true := by simp; omega
      have h2 : decide ((c : Int) < 96) = true := by simp; omega
      have hl : leadL c true = [c + 64] := if_pos ⟨rfl, h⟩
      rw [hl]
      have hw : IntKind.u8.wrap ((c : Int) + 64) = ((c + 64 : Nat) : Int) := by rw [IntKind.wrap_u8]; omega
      have HO1 : Hid (OByt (w.alloc (.cells #[.int .u8 ((c + 64 : Nat) : Int)] 5)) w.heap.size (.slice (some ⟨w.heap.size, 0, none⟩) 1 1) [c + 64]) := Lib.hid (World.ownsRow_lit (e := 5) (size := 1) w #[.int .u8 ((c + 64 : Nat) : Int)] 1 (Nat.le_refl _) (by unfold maxLen; omega) rfl)
      generalize c + 64 = d at *
      clear h hl
      go_enter Tryd.func29, Tryd.ntmps29
      go_wp2_with fail
      go_ret
      exact ⟨_, rfl, HO1.out, HB.out _⟩
    · have hl : leadL c true = [27, c] := if_neg (fun x => h x.2)
      rw [hl]
      have hh : decide ((64 : Int) ≤ (c : Int)) = false ∨ (decide ((64 : Int) ≤ (c : Int)) = true ∧ decide ((c : Int) < 96) = false) := by
        by_cases h1 : 64 ≤ c
        · exact .inr ⟨by simp; omega, by simp; omega⟩
        · exact .inl (by simp; omega)
      clear h hl
      rcases hh with h1 | ⟨h1, h2⟩
      all_goals
        go_enter Tryd.func29, Tryd.ntmps29
        go_wp2_with fail
        go_ret
        exact ⟨_, rfl, HO2.out, HB.out _⟩
theorem conv_new1 (W : World) (n : Nat) : (convert 23 9 (.slice (some ⟨W.heap.size, 0, none⟩) 1 1)).run Tryd.prog (W.alloc (.cells #[.int .u8 (n : Int)] 5)) = .ok (.string (bstr [n])) (W.alloc (.cells #[.int .u8 (n : Int)] 5)) := by
  have h : RByt (W.alloc (.cells #[.int .u8 (n : Int)] 5)) (some ⟨W.heap.size, 0, none⟩) [n] := Reads.of_own (World.ownsRow_lit (e := 5) (size := 1) W #[.int .u8 (n : Int)] 1 (Nat.le_refl _) (by unfold maxLen; omega) rfl)
  exact conv_by h 1
theorem bstr_append (a b : List Nat) : bstr (a ++ b) = bstr a ++ bstr b := by
  apply ByteArray.ext
  apply Array.ext'
  rw [bstr_list, List.map_append]
  show _ = (bstr a ++ bstr b).data.toList
  rw [ByteArray.data_append, Array.toList_append, bstr_list, bstr_list]
theorem bstr_nat (s : ByteArray) : bstr (natL s.data.toList) = s := by
  apply ByteArray.ext
  apply Array.ext'
  rw [bstr_list]
  unfold natL
  rw [List.map_map]
  have : (UInt8.ofNat ∘ UInt8.toNat) = id := by funext x; simp
  rw [this, List.map_id]
theorem id_parts (c m : Nat) (s : ByteArray) : bstr (signsL c m [] s) = (if m = 0 then (ByteArray.mk #[]) else bstr [m]) ++ s ++ bstr [c] := by
  unfold signsL
  rw [fmt_none]
  simp only [bstr_append, bstr_nat]
  have e0 : bstr (natL []) = ByteArray.mk #[] := rfl
  rw [e0]
  by_cases h : m = 0
  · rw [if_pos h, if_pos h]
    apply ByteArray.ext; apply Array.ext'
    simp [ByteArray.data_append, bstr]
    rfl
  · rw [if_neg h, if_neg h]
    apply ByteArray.ext; apply Array.ext'
    simp [ByteArray.data_append]

set_option maxRecDepth 100000 in
set_option maxHeartbeats 8000000 in
theorem refId_any (k : Int) (c m : Nat) (P : Option Addr) (ps : List Int) (pc : Nat) (s : ByteArray) (D : Option Addr) (dt : List Nat) (dc : Nat) (hsz : s.size ≤ maxLen - 10) (w : World) :
    Calls Tryd.prog 16 #[.agg (tkC k (c : Int) (m : Int) P ps pc s D dt dc)] w fun e w' => e = .returned (.string (idP k c m s)) ∧ Below w.heap.size w w' := by
  have HK := Lib.hid (K1.start w 25 (tkC k (c : Int) (m : Int) P ps pc s D dt dc))
  have hid : idP k c m s = if 3 ≤ k ∧ k ≤ 5 then (if m = 0 then (ByteArray.mk #[]) else bstr [m]) ++ s ++ bstr [c] else ⟨#[]⟩ := by
    unfold idP
    rw [id_parts]
  have H1 := Lib.hid (fun W n => conv_new1 W n)
  have e0 : (ByteArray.mk #[]).size = 0 := rfl
  have e1 : [m].length = 1 := rfl
  have e2 : [c].length = 1 := rfl
  have hadd1 : ∀ W, (Op.stringOp .add (ByteArray.mk #[]) s).run Tryd.prog W = .ok (.string ((ByteArray.mk #[]) ++ s)) W := fun W => run_string_add_sum W _ _ (by unfold maxLen at *; omega)
  have hadd2 : ∀ W, (Op.stringOp .add (bstr [m]) s).run Tryd.prog W = .ok (.string (bstr [m] ++ s)) W := fun W => run_string_add_sum W _ _ (by rw [bstr_size]; unfold maxLen at *; omega)
  have hadd3 : ∀ W, (Op.stringOp .add ((ByteArray.mk #[]) ++ s) (bstr [c])).run Tryd.prog W = .ok (.string ((ByteArray.mk #[]) ++ s ++ bstr [c])) W := fun W => run_string_add_sum W _ _ (by rw [bstr_size, ByteArray.size_append]; unfold maxLen at *; omega)
  have hadd4 : ∀ W, (Op.stringOp .add (bstr [m] ++ s) (bstr [c])).run Tryd.prog W = .ok (.string (bstr [m] ++ s ++ bstr [c])) W := fun W => run_string_add_sum W _ _ (by rw [ByteArray.size_append, bstr_size, bstr_size]; unfold maxLen at *; omega)
  generalize idP k c m s = res at *
  unfold tkC at *
  have hc : (k < 3 ∧ res = ⟨#[]⟩) ∨ (decide (k < 3) = false ∧ 5 < k ∧ res = ⟨#[]⟩) ∨ (decide (k < 3) = false ∧ decide (5 < k) = false ∧ ((m = 0 ∧ res = (ByteArray.mk #[]) ++ s ++ bstr [c]) ∨ (((m : Int) != 0) = true ∧ res = bstr [m] ++ s ++ bstr [c]))) := by
    by_cases h1 : k < 3
    · exact .inl ⟨h1, by rw [hid, if_neg (by omega)]⟩
    · by_cases h2 : 5 < k
      · exact .inr (.inl ⟨by simpa using h1, h2, by rw [hid, if_neg (by omega)]⟩)
      · refine .inr (.inr ⟨by simpa using h1, by simpa using h2, ?_⟩)
        rw [hid, if_pos (by omega)]
        by_cases h3 : m = 0
        · exact .inl ⟨h3, by rw [if_pos h3]⟩
        · exact .inr ⟨by simp; omega, by rw [if_neg h3]⟩
  clear hid hsz e0 e1 e2
  rcases hc with ⟨h1, rfl⟩ | ⟨h1, h2, rfl⟩ | ⟨h1, h2, ⟨rfl, rfl⟩ | ⟨h3, rfl⟩⟩
  · go_enter Tryd.func16, Tryd.ntmps16
    go_upto_region 1 with fail
    generalize w.alloc (.cells #[.int .i64 k, .int .u8 (c : Int), .int .u8 (m : Int), .slice P ps.length pc, .string s, .slice D dt.length dc] 25) = w1 at *
    obtain ⟨a0, a1, a2, a3, a4, a5⟩ := six HK.out.1
    go_wp2_with fail
    go_ret
    exact ⟨rfl, HK.out.2⟩
  · go_enter Tryd.func16, Tryd.ntmps16
    go_upto_region 1 with fail
    generalize w.alloc (.cells #[.int .i64 k, .int .u8 (c : Int), .int .u8 (m : Int), .slice P ps.length pc, .string s, .slice D dt.length dc] 25) = w1 at *
    obtain ⟨a0, a1, a2, a3, a4, a5⟩ := six HK.out.1
    go_wp2_with fail
    go_ret
    exact ⟨rfl, HK.out.2⟩
  · go_enter Tryd.func16, Tryd.ntmps16
    go_upto_region 1 with fail
    generalize w.alloc (.cells #[.int .i64 k, .int .u8 (c : Int), .int .u8 ((0 : Nat) : Int), .slice P ps.length pc, .string s, .slice D dt.length dc] 25) = w1 at *
    obtain ⟨a0, a1, a2, a3, a4, a5⟩ := six HK.out.1
    have hc1 := conv_new1 w1 c
    have HB := Lib.hid (HK.out.2.alloc HK.out.2.size (.cells #[.int .u8 (c : Int)] 5))
    go_wp2_with fail
    go_ret
    exact ⟨rfl, HB.out⟩
  · go_enter Tryd.func16, Tryd.ntmps16
    go_upto_region 1 with fail
    generalize w.alloc (.cells #[.int .i64 k, .int .u8 (c : Int), .int .u8 (m : Int), .slice P ps.length pc, .string s, .slice D dt.length dc] 25) = w1 at *
    obtain ⟨a0, a1, a2, a3, a4, a5⟩ := six HK.out.1
    have hc1 := conv_new1 w1 m
    go_upto_region 6 with fail
    have HK2 := Lib.hid (K1.next HK.out ((Below.refl _ _).alloc (Nat.le_refl _) (.cells #[.int .u8 (m : Int)] 5)))
    clear a0 a1 a2 a3 a4 a5 hc1
    generalize w1.alloc (.cells #[.int .u8 (m : Int)] 5) = w2 at *
    obtain ⟨a0, a1, a2, a3, a4, a5⟩ := six HK2.out.1
    have hc2 := conv_new1 w2 c
    have HB := Lib.hid (HK2.out.2.alloc HK2.out.2.size (.cells #[.int .u8 (c : Int)] 5))
    go_wp2_with fail
    go_ret
    exact ⟨rfl, HB.out⟩
end Go.Proofs.YtcphjohciklmjaaDoor

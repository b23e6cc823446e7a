/-
  The walks of how many sets there are, of a set's name and its id; what is fixed of them all.
-/
import Derived.Test.YtandfpghjbbalaaDoorChsD
namespace Go.Proofs.YtandfpghjbbalaaDoor
open Go Go.RowKit

theorem sets_any (w : World) : Calls Tryd.prog 40 #[] w fun e w' => e = .returned (.int .i64 17) ∧ w = w' := by
  go_enter Tryd.func40, Tryd.ntmps40
  go_wp2_with fail
  go_ret
  exact ⟨rfl, rfl⟩
def natB (x : Int) : Bool := decide (6 ≤ x) && decide (x ≤ 17)
theorem national_any (x : Int) (w : World) : Calls Tryd.prog 22 #[.int .i64 x] w fun e w' => e = .returned (.bool (natB x)) ∧ w = w' := by
  unfold natB
  rcases h1 : decide (6 ≤ x) with _ | _
  · rw [Bool.false_and]
    go_enter Tryd.func22, Tryd.ntmps22
    go_wp2_with fail
    go_ret
    exact ⟨rfl, rfl⟩
  · rcases h2 : decide (x ≤ 17) with _ | _
    all_goals
      go_enter Tryd.func22, Tryd.ntmps22
      go_wp2_with fail
      go_ret
      exact ⟨rfl, rfl⟩
set_option maxHeartbeats 1000000 in
theorem name_any (x : Int) (w : World) (ht : Faces w) : Calls Tryd.prog 20 #[.int .i64 x] w fun e w' => e = .returned (.string (nmP (setN x))) ∧ Below w.heap.size w w' := by
  have HF := Lib.hid (faceOf_any x w ht)
  unfold faceV at HF
  generalize wideP (setN x) = wd at *
  generalize nmP (setN x) = nm at *
  generalize idsP (setN x) = ids at *
  generalize aboP (setN x) = ab at *
  go_enter Tryd.func20, Tryd.ntmps20
  go_wp2_with fail
  refine HF.out.mono ?_
  rintro e w1 ⟨rfl, hb1⟩
  have HB := Lib.hid hb1
  clear hb1
  have hfd : ∀ W, (Instr.field 65 (.agg #[.string nm, .string ids, .bool wd, .int .i32 ab]) 0).run Tryd.prog W = .ok (.string nm) W := fun W => by kernel_rfl
  go_wp2_with fail
  go_ret
  exact ⟨rfl, HB.out⟩
/-- A set's id. -/
def idP : Nat → ByteArray
  | 1 => ⟨#[66]⟩
  | 2 => ⟨#[48]⟩
  | 3 => ⟨#[62]⟩
  | 4 => ⟨#[37, 53]⟩
  | 5 => ⟨#[65]⟩
  | 6 => ⟨#[65]⟩
  | 7 => ⟨#[52]⟩
  | 8 => ⟨#[53]⟩
  | 9 => ⟨#[82]⟩
  | 10 => ⟨#[57]⟩
  | 11 => ⟨#[75]⟩
  | 12 => ⟨#[89]⟩
  | 13 => ⟨#[96]⟩
  | 14 => ⟨#[37, 54]⟩
  | 15 => ⟨#[90]⟩
  | 16 => ⟨#[55]⟩
  | 17 => ⟨#[61]⟩
  | _ => ⟨#[]⟩
theorem id_cut : ∀ k, k < 18 → (Lib.indexByte (idsP k).data.toList 32 = -1 ∧ idsP k = idP k) ∨ ∃ i : Nat, Lib.indexByte (idsP k).data.toList 32 = i ∧ i < (idsP k).size ∧ (idsP k).extract 0 i = idP k
  | 0, _ => .inl ⟨by kernel_rfl, rfl⟩
  | 1, _ => .inl ⟨by kernel_rfl, rfl⟩
  | 2, _ => .inr ⟨1, by kernel_rfl, by decide, by kernel_rfl⟩
  | 3, _ => .inl ⟨by kernel_rfl, rfl⟩
  | 4, _ => .inl ⟨by kernel_rfl, rfl⟩
  | 5, _ => .inl ⟨by kernel_rfl, rfl⟩
  | 6, _ => .inl ⟨by kernel_rfl, rfl⟩
  | 7, _ => .inl ⟨by kernel_rfl, rfl⟩
  | 8, _ => .inr ⟨1, by kernel_rfl, by decide, by kernel_rfl⟩
  | 9, _ => .inr ⟨1, by kernel_rfl, by decide, by kernel_rfl⟩
  | 10, _ => .inr ⟨1, by kernel_rfl, by decide, by kernel_rfl⟩
  | 11, _ => .inl ⟨by kernel_rfl, rfl⟩
  | 12, _ => .inl ⟨by kernel_rfl, rfl⟩
  | 13, _ => .inr ⟨1, by kernel_rfl, by decide, by kernel_rfl⟩
  | 14, _ => .inl ⟨by kernel_rfl, rfl⟩
  | 15, _ => .inl ⟨by kernel_rfl, rfl⟩
  | 16, _ => .inr ⟨1, by kernel_rfl, by decide, by kernel_rfl⟩
  | 17, _ => .inl ⟨by kernel_rfl, rfl⟩
  | n + 18, h => absurd h (by omega)
theorem ids_size : ∀ k, k < 18 → (idsP k).size ≤ 100000 := by decide +kernel
set_option maxHeartbeats 2000000 in
set_option maxRecDepth 100000 in
theorem index_any (s : ByteArray) (w : World) :
    Calls Tryd.prog 71 #[.string s, .string ⟨#[32]⟩] w fun e w' => e = .returned (.int .i64 (Lib.indexByte s.data.toList 32)) ∧ w = w' := by
  have HI := Lib.hid (fun W => indexByte_any s 32 W)
  rw [show (32 : Int).toNat.toUInt8 = 32 from rfl] at HI
  by_cases h : s = ⟨#[32]⟩
  · subst h
    go_enter Tryd.func71, Tryd.ntmps71
    go_wp2_with (go_at_call 62; refine (HI.out _).mono ?_; rintro e w1 ⟨rfl, rfl⟩)
    go_ret
    exact ⟨rfl, rfl⟩
  · have hne : (([32] : List UInt8) == s.toList) = false := by
      rw [beq_eq_false_iff_ne]
      intro e
      apply h
      have e2 : s.data.toList = [32] := by rw [← ByteArray.toList_eq]; exact e.symm
      obtain ⟨⟨l⟩⟩ := s
      simp at e2
      rw [e2]
    clear h
    generalize Lib.indexByte s.data.toList 32 = x at *
    go_enter Tryd.func71, Tryd.ntmps71
    go_wp2_with (go_at_call 62; refine (HI.out _).mono ?_; rintro e w1 ⟨rfl, rfl⟩)
    go_ret
    exact ⟨rfl, rfl⟩
set_option maxHeartbeats 2000000 in
theorem cut_no (s : ByteArray) (h : Lib.indexByte s.data.toList 32 = -1) (w : World) :
    Calls Tryd.prog 52 #[.string s, .string ⟨#[32]⟩] w fun e w' => e = .returned (.tuple #[.string s, .string ⟨#[]⟩, .bool false]) ∧ Below w.heap.size w w' := by
  have HI := Lib.hid (fun W => index_any s W)
  rw [h] at HI
  clear h
  have HC : Hid (∀ W, Calls Tryd.prog 65 #[.string s, .string ⟨#[32]⟩] W fun e w' => e = .returned (.tuple #[.string s, .string ⟨#[]⟩, .bool false]) ∧ Below W.heap.size W w') := Lib.hid (fun W => by
    go_enter Tryd.func65, Tryd.ntmps65
    go_wp2_with (go_at_call 71; refine (HI.out _).mono ?_; rintro e w1 ⟨rfl, rfl⟩)
    go_ret3
    exact ⟨rfl, Below.refl _ _⟩)
  go_enter Tryd.func52, Tryd.ntmps52
  go_wp2_with (go_at_call 65; refine (HC.out _).mono ?_; rintro e w1 ⟨rfl, hb1⟩; have HB := Lib.hid hb1; clear hb1)
  go_ret3
  exact ⟨rfl, HB.out⟩
set_option maxHeartbeats 2000000 in
theorem cut_yes (s : ByteArray) (i : Nat) (h : Lib.indexByte s.data.toList 32 = i) (hi : i < s.size) (hs : s.size ≤ 100000) (w : World) :
    Calls Tryd.prog 52 #[.string s, .string ⟨#[32]⟩] w fun e w' => e = .returned (.tuple #[.string (s.extract 0 i), .string (s.extract (i + 1) s.size), .bool true]) ∧ Below w.heap.size w w' := by
  have HI := Lib.hid (fun W => index_any s W)
  rw [h] at HI
  clear h
  have HC : Hid (∀ W, Calls Tryd.prog 65 #[.string s, .string ⟨#[32]⟩] W fun e w' => e = .returned (.tuple #[.string (s.extract 0 i), .string (s.extract (i + 1) s.size), .bool true]) ∧ Below W.heap.size W w') := Lib.hid (fun W => by
    have c1 : (0 : Int) ≤ ↑i := by omega
    have c2 : (↑i : Int) ≤ ↑s.size := by omega
    have c3 : (0 : Int) ≤ ↑i + 1 := by omega
    have c4 : (↑i + 1 : Int) ≤ ↑s.size := by omega
    go_enter Tryd.func65, Tryd.ntmps65
    go_wp2_with (go_at_call 71; refine (HI.out _).mono ?_; rintro e w1 ⟨rfl, rfl⟩)
    go_quiet (fail)
    go_wp2
    go_ret3
    exact ⟨rfl, below_drewN (Below.refl _ _) _⟩)
  go_enter Tryd.func52, Tryd.ntmps52
  go_wp2_with (go_at_call 65; refine (HC.out _).mono ?_; rintro e w1 ⟨rfl, hb1⟩; have HB := Lib.hid hb1; clear hb1)
  go_ret3
  exact ⟨rfl, HB.out⟩
theorem cut_id (k : Nat) (hk : k < 18) (w : World) : Calls Tryd.prog 52 #[.string (idsP k), .string ⟨#[32]⟩] w fun e w' => ∃ b c, e = .returned (.tuple #[.string (idP k), .string b, .bool c]) ∧ Below w.heap.size w w' := by
  rcases id_cut k hk with ⟨h, e⟩ | ⟨i, h, hi, e⟩
  · exact (cut_no _ h w).mono fun _ _ ⟨h1, h2⟩ => ⟨⟨#[]⟩, false, by rw [h1, e], h2⟩
  · exact (cut_yes _ i h hi (ids_size k hk) w).mono fun _ _ ⟨h1, h2⟩ => ⟨(idsP k).extract (i + 1) (idsP k).size, true, by rw [h1, e], h2⟩
theorem setN_lt (x : Int) : setN x < 18 := by unfold setN; split <;> omega
set_option maxHeartbeats 2000000 in
theorem id_any (x : Int) (w : World) (ht : Faces w) : Calls Tryd.prog 17 #[.int .i64 x] w fun e w' => e = .returned (.tuple #[.string (idP (setN x)), .bool (wideP (setN x))]) ∧ Below w.heap.size w w' := by
  have HF := Lib.hid (faceOf_any x w ht)
  have HC := Lib.hid (fun W => cut_id (setN x) (setN_lt x) W)
  unfold faceV at HF
  generalize wideP (setN x) = wd at *
  generalize nmP (setN x) = nm at *
  generalize idsP (setN x) = ids at *
  generalize idP (setN x) = id at *
  generalize aboP (setN x) = ab at *
  go_enter Tryd.func17, Tryd.ntmps17
  go_wp2_with fail
  refine HF.out.mono ?_
  rintro e w1 ⟨rfl, hb1⟩
  have HB := Lib.hid hb1
  clear hb1
  go_wp2_with fail
  have HA : Hid (Blk (w1.alloc (.cells #[.string nm, .string ids, .bool wd, .int .i32 ab] 65)) w1.heap.size 65 #[.string nm, .string ids, .bool wd, .int .i32 ab]) := Lib.hid (Blk.new w1 _ _)
  have HB1 := Lib.hid (HB.out.alloc HB.out.size (.cells #[.string nm, .string ids, .bool wd, .int .i32 ab] 65))
  refine (HC.out _).mono ?_
  rintro e w2 ⟨b, c, rfl, hb2⟩
  have HB2 := Lib.hid (HB1.out.trans (hb2.mono HB1.out.size))
  have hcell := (HA.out.next hb2).cell 2
  clear hb2 HA
  go_wp2_with fail
  go_quiet (fail)
  go_wp2
  go_ret2
  exact ⟨rfl, below_drewN HB2.out _⟩
set_option maxHeartbeats 2000000 in
theorem awake_any (w : World) (ht : Faces w) : Calls Tryd.prog 12 #[] w fun e w' => e = .returned (.bool true) ∧ Below w.heap.size w w' := by
  have HT := Lib.hid ht
  clear ht
  have HS := Lib.hid (fun W => sets_any W)
  have HA : Hid (∀ W, Faces W → Calls Tryd.prog 13 #[.int .i64 2, .int .u8 113] W fun e w' => e = .returned (.int .i32 9472) ∧ Below W.heap.size W w') := Lib.hid (fun W t => glyph_any 2 113 (by omega) W t)
  have HB : Hid (∀ W, Faces W → Calls Tryd.prog 13 #[.int .i64 11, .int .u8 126] W fun e w' => e = .returned (.int .i32 223) ∧ Below W.heap.size W w') := Lib.hid (fun W t => glyph_any 11 126 (by omega) W t)
  have HC : Hid (∀ W, Faces W → Calls Tryd.prog 13 #[.int .i64 1, .int .u8 193] W fun e w' => e = .returned (.int .i32 65) ∧ Below W.heap.size W w') := Lib.hid (fun W t => glyph_any 1 193 (by omega) W t)
  go_enter Tryd.func12, Tryd.ntmps12
  go_wp2_with fail
  refine (HS.out _).mono ?_
  rintro e w1 ⟨rfl, rfl⟩
  go_wp2_with fail
  refine (HA.out _ HT.out).mono ?_
  rintro e w1 ⟨rfl, hb1⟩
  have HT1 := Lib.hid (HT.out.next hb1); have HB1 := Lib.hid hb1
  clear hb1
  go_wp2_with fail
  refine (HB.out _ HT1.out).mono ?_
  rintro e w2 ⟨rfl, hb2⟩
  have HT2 := Lib.hid (HT1.out.next hb2); have HB2 := Lib.hid (HB1.out.trans (hb2.mono HB1.out.size))
  clear hb2
  go_wp2_with fail
  refine (HC.out _ HT2.out).mono ?_
  rintro e w3 ⟨rfl, hb3⟩
  have HB3 := Lib.hid (HB2.out.trans (hb3.mono HB2.out.size))
  clear hb3
  go_wp2_with fail
  go_ret
  exact ⟨rfl, HB3.out⟩
end Go.Proofs.YtandfpghjbbalaaDoor

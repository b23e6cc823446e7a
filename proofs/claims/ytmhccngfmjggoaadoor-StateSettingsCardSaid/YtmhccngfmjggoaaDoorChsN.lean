/-
  The walks of how many sets there are, of a set's name and its id; what is fixed of them all.
  The words of an id's text; is a text among others: slices.Contains over a row of texts.
  The walks of what is asked of a set; the first set that fits; the set of an id.
  The walks of the first set that fits, and of the set of an id.
-/
import Derived.Test.YtmhccngfmjggoaaDoorChsD
import Derived.Test.YtmhccngfmjggoaaDoorShelf
import Derived.Test.YtmhccngfmjggoaaDoorMixE
import Derived.Lib.SmallJoins
namespace Go.Proofs.YtmhccngfmjggoaaDoor

open Go Go.RowKit


def natB (x : Int) : Bool := decide (6 ≤ x) && decide (x ≤ 17)


/-- A set's id. -/
def idP : Nat → ByteArray
  | 1 => ⟨#[66]⟩
  | 2 => ⟨#[48]⟩
  | 3 => ⟨#[62]⟩
  | 4 => ⟨#[37, 53]⟩
  | 5 => ⟨#[65]⟩
  | 6 => ⟨#[65]⟩
  | 7 => ⟨#[52]⟩
  | 8 => ⟨#[53]⟩
  | 9 => ⟨#[82]⟩
  | 10 => ⟨#[57]⟩
  | 11 => ⟨#[75]⟩
  | 12 => ⟨#[89]⟩
  | 13 => ⟨#[96]⟩
  | 14 => ⟨#[37, 54]⟩
  | 15 => ⟨#[90]⟩
  | 16 => ⟨#[55]⟩
  | 17 => ⟨#[61]⟩
  | _ => ⟨#[]⟩
theorem id_cut : ∀ k, k < 18 → (Lib.indexByte (idsP k).data.toList 32 = -1 ∧ idsP k = idP k) ∨ ∃ i : Nat, Lib.indexByte (idsP k).data.toList 32 = i ∧ i < (idsP k).size ∧ (idsP k).extract 0 i = idP k
  | 0, _ => .inl ⟨by kernel_rfl, rfl⟩
  | 1, _ => .inl ⟨by kernel_rfl, rfl⟩
  | 2, _ => .inr ⟨1, by kernel_rfl, by decide, by kernel_rfl⟩
  | 3, _ => .inl ⟨by kernel_rfl, rfl⟩
  | 4, _ => .inl ⟨by kernel_rfl, rfl⟩
  | 5, _ => .inl ⟨by kernel_rfl, rfl⟩
  | 6, _ => .inl ⟨by kernel_rfl, rfl⟩
  | 7, _ => .inl ⟨by kernel_rfl, rfl⟩
  | 8, _ => .inr ⟨1, by kernel_rfl, by decide, by kernel_rfl⟩
  | 9, _ => .inr ⟨1, by kernel_rfl, by decide, by kernel_rfl⟩
  | 10, _ => .inr ⟨1, by kernel_rfl, by decide, by kernel_rfl⟩
  | 11, _ => .inl ⟨by kernel_rfl, rfl⟩
  | 12, _ => .inl ⟨by kernel_rfl, rfl⟩
  | 13, _ => .inr ⟨1, by kernel_rfl, by decide, by kernel_rfl⟩
  | 14, _ => .inl ⟨by kernel_rfl, rfl⟩
  | 15, _ => .inl ⟨by kernel_rfl, rfl⟩
  | 16, _ => .inr ⟨1, by kernel_rfl, by decide, by kernel_rfl⟩
  | 17, _ => .inl ⟨by kernel_rfl, rfl⟩
  | n + 18, h => absurd h (by omega)
theorem ids_size : ∀ k, k < 18 → (idsP k).size ≤ 100000 := by decide +kernel
set_option maxHeartbeats 2000000 in
set_option maxRecDepth 100000 in
theorem index_any (s : ByteArray) (w : World) :
    Calls Tryd.prog 84 #[.string s, .string ⟨#[32]⟩] w fun e w' => e = .returned (.int .i64 (Lib.indexByte s.data.toList 32)) ∧ w = w' := by
  have HI := Lib.hid (fun W => indexByte_any s 32 W)
  rw [show (32 : Int).toNat.toUInt8 = 32 from rfl] at HI
  by_cases h : s = ⟨#[32]⟩
  · subst h
    go_enter Tryd.func84, Tryd.ntmps84
    go_wp2_with (go_at_call 90; refine (HI.out _).mono ?_; rintro e w1 ⟨rfl, rfl⟩)
    go_ret
    exact ⟨rfl, rfl⟩
  · have hne : (([32] : List UInt8) == s.toList) = false := by
      rw [beq_eq_false_iff_ne]
      intro e
      apply h
      have e2 : s.data.toList = [32] := by rw [← ByteArray.toList_eq]; exact e.symm
      obtain ⟨⟨l⟩⟩ := s
      simp at e2
      rw [e2]
    clear h
    generalize Lib.indexByte s.data.toList 32 = x at *
    go_enter Tryd.func84, Tryd.ntmps84
    go_wp2_with (go_at_call 90; refine (HI.out _).mono ?_; rintro e w1 ⟨rfl, rfl⟩)
    go_ret
    exact ⟨rfl, rfl⟩
set_option maxHeartbeats 2000000 in
theorem cut_no (s : ByteArray) (h : Lib.indexByte s.data.toList 32 = -1) (w : World) :
    Calls Tryd.prog 68 #[.string s, .string ⟨#[32]⟩] w fun e w' => e = .returned (.tuple #[.string s, .string ⟨#[]⟩, .bool false]) ∧ Below w.heap.size w w' := by
  have HI := Lib.hid (fun W => index_any s W)
  rw [h] at HI
  clear h
  have HC : Hid (∀ W, Calls Tryd.prog 77 #[.string s, .string ⟨#[32]⟩] W fun e w' => e = .returned (.tuple #[.string s, .string ⟨#[]⟩, .bool false]) ∧ Below W.heap.size W w') := Lib.hid (fun W => by
    go_enter Tryd.func77, Tryd.ntmps77
    go_wp2_with (go_at_call 84; refine (HI.out _).mono ?_; rintro e w1 ⟨rfl, rfl⟩)
    go_ret3
    exact ⟨rfl, Below.refl _ _⟩)
  go_enter Tryd.func68, Tryd.ntmps68
  go_wp2_with (go_at_call 77; refine (HC.out _).mono ?_; rintro e w1 ⟨rfl, hb1⟩; have HB := Lib.hid hb1; clear hb1)
  go_ret3
  exact ⟨rfl, HB.out⟩
set_option maxHeartbeats 2000000 in
theorem cut_yes (s : ByteArray) (i : Nat) (h : Lib.indexByte s.data.toList 32 = i) (hi : i < s.size) (hs : s.size ≤ 100000) (w : World) :
    Calls Tryd.prog 68 #[.string s, .string ⟨#[32]⟩] w fun e w' => e = .returned (.tuple #[.string (s.extract 0 i), .string (s.extract (i + 1) s.size), .bool true]) ∧ Below w.heap.size w w' := by
  have HI := Lib.hid (fun W => index_any s W)
  rw [h] at HI
  clear h
  have HC : Hid (∀ W, Calls Tryd.prog 77 #[.string s, .string ⟨#[32]⟩] W fun e w' => e = .returned (.tuple #[.string (s.extract 0 i), .string (s.extract (i + 1) s.size), .bool true]) ∧ Below W.heap.size W w') := Lib.hid (fun W => by
    have c1 : (0 : Int) ≤ ↑i := by omega
    have c2 : (↑i : Int) ≤ ↑s.size := by omega
    have c3 : (0 : Int) ≤ ↑i + 1 := by omega
    have c4 : (↑i + 1 : Int) ≤ ↑s.size := by omega
    go_enter Tryd.func77, Tryd.ntmps77
    go_wp2_with (go_at_call 84; refine (HI.out _).mono ?_; rintro e w1 ⟨rfl, rfl⟩)
    go_quiet (fail)
    go_wp2
    go_ret3
    exact ⟨rfl, below_drewN (Below.refl _ _) _⟩)
  go_enter Tryd.func68, Tryd.ntmps68
  go_wp2_with (go_at_call 77; refine (HC.out _).mono ?_; rintro e w1 ⟨rfl, hb1⟩; have HB := Lib.hid hb1; clear hb1)
  go_ret3
  exact ⟨rfl, HB.out⟩
theorem cut_id (k : Nat) (hk : k < 18) (w : World) : Calls Tryd.prog 68 #[.string (idsP k), .string ⟨#[32]⟩] w fun e w' => ∃ b c, e = .returned (.tuple #[.string (idP k), .string b, .bool c]) ∧ Below w.heap.size w w' := by
  rcases id_cut k hk with ⟨h, e⟩ | ⟨i, h, hi, e⟩
  · exact (cut_no _ h w).mono fun _ _ ⟨h1, h2⟩ => ⟨⟨#[]⟩, false, by rw [h1, e], h2⟩
  · exact (cut_yes _ i h hi (ids_size k hk) w).mono fun _ _ ⟨h1, h2⟩ => ⟨(idsP k).extract (i + 1) (idsP k).size, true, by rw [h1, e], h2⟩
theorem setN_lt (x : Int) : setN x < 18 := by unfold setN; split <;> omega
set_option maxHeartbeats 2000000 in
theorem id_any (x : Int) (w : World) (ht : Faces w) : Calls Tryd.prog 52 #[.int .i64 x] w fun e w' => e = .returned (.tuple #[.string (idP (setN x)), .bool (wideP (setN x))]) ∧ Below w.heap.size w w' := by
  have HF := Lib.hid (faceOf_any x w ht)
  have HC := Lib.hid (fun W => cut_id (setN x) (setN_lt x) W)
  unfold faceV at HF
  generalize wideP (setN x) = wd at *
  generalize nmP (setN x) = nm at *
  generalize idsP (setN x) = ids at *
  generalize idP (setN x) = id at *
  generalize aboP (setN x) = ab at *
  go_enter Tryd.func52, Tryd.ntmps52
  go_wp2_with fail
  refine HF.out.mono ?_
  rintro e w1 ⟨rfl, hb1⟩
  have HB := Lib.hid hb1
  clear hb1
  go_wp2_with fail
  have HA : Hid (Blk (w1.alloc (.cells #[.string nm, .string ids, .bool wd, .int .i32 ab] 118)) w1.heap.size 118 #[.string nm, .string ids, .bool wd, .int .i32 ab]) := Lib.hid (Blk.new w1 _ _)
  have HB1 := Lib.hid (HB.out.alloc HB.out.size (.cells #[.string nm, .string ids, .bool wd, .int .i32 ab] 118))
  refine (HC.out _).mono ?_
  rintro e w2 ⟨b, c, rfl, hb2⟩
  have HB2 := Lib.hid (HB1.out.trans (hb2.mono HB1.out.size))
  have hcell := (HA.out.next hb2).cell 2
  clear hb2 HA
  go_wp2_with fail
  go_quiet (fail)
  go_wp2
  go_ret2
  exact ⟨rfl, below_drewN HB2.out _⟩

end Go.Proofs.YtmhccngfmjggoaaDoor

namespace Go.Proofs.YtmhccngfmjggoaaDoor

open Go Go.RowKit

/-- The world holds the library's table of blanks. -/
def Blanks (w : World) : Prop := Lib.TabIs Tryd.prog w "strings.asciiSpace" .u8 Lib.asciiSpaceTab
/-- The ids of a set. -/
def wordsP (k : Nat) : List ByteArray := (Lib.fields (idsP k).data.toList).map fun l => ⟨l.toArray⟩
def strV (L : List ByteArray) : Array Value := (L.map Value.string).toArray
theorem words_len : ∀ k, k < 18 → (wordsP k).length ≤ 3 := by decide +kernel
theorem ids_ascii : ∀ k, k < 18 → ((idsP k).data.toList.all fun b => decide (b.toNat < 128)) = true := by decide +kernel

theorem str_cell {w : World} {g : Nat} {t : TypeId} {L : List ByteArray} (h : Blk w g t (strV L)) (k : Nat) (hk : k < L.length) : w.cell? ⟨g, k, none⟩ = some (.string L[k]) := by
  rw [h.cell k]
  unfold strV
  simp [List.getElem?_eq_getElem hk]
/-- Is a text among others? -/
def hasB (L : List ByteArray) (id : ByteArray) : Bool := L.any fun x => id.toList == x.toList

end Go.Proofs.YtmhccngfmjggoaaDoor

namespace Go.Proofs.YtmhccngfmjggoaaDoor

open Go Go.RowKit

def metP (wide : Bool) (id : ByteArray) (k : Nat) : Bool := (wideP k == wide) && hasB (wordsP k) id
def wishV (wide : Bool) (id : ByteArray) : Value := .agg #[.bool wide, .string id]

/-- A slice of texts as a letter. -/
def StP (n : Nat) (u : Value) : Prop := ∃ g, u = .slice (some ⟨g, 0, none⟩) n n
def StF (B : Nat) (L : List ByteArray) (u : Value) (W : World) : Prop := ∃ g, u = .slice (some ⟨g, 0, none⟩) L.length L.length ∧ B ≤ g ∧ Blk W g 9 (strV L)
theorem stF_stab (ks : Kinds) (wr : World) (L : List ByteArray) (ht : 9 ∉ boxes ks) : ∀ v w w', Kept ks wr w w' → StF wr.heap.size L v w → StF wr.heap.size L v w' := by
  rintro v w w' hk ⟨g, e, hg, hb⟩
  refine ⟨g, e, hg, ?_⟩
  refine (hk.block g hb.lt hg (fun cs T fr e2 => ?_)).trans hb
  have e3 : some (Obj.cells (strV L) 9 (0, 0)) = some (.cells cs T fr) := (show w.heap[g]? = _ from hb).symm.trans e2
  injection e3 with e3
  injection e3 with _ e4 _
  rw [← e4]; exact ht



end Go.Proofs.YtmhccngfmjggoaaDoor

namespace Go.Proofs.YtmhccngfmjggoaaDoor

open Go Go.RowKit

/-- The first set that fits, or none. -/
def fndP (f : Nat → Bool) : Nat := ((List.range' 1 17).find? f).getD 0
theorem find_go (f : Nat → Bool) : ∀ r a, ((∀ j, a ≤ j → j < a + r → f j = false) → (List.range' a r).find? f = none) ∧ (∀ n, a ≤ n → n < a + r → f n = true → (∀ j, a ≤ j → j < n → f j = false) → (List.range' a r).find? f = some n) := by
  intro r
  induction r with
  | zero => intro a; exact ⟨fun _ => rfl, fun n h1 h2 => by omega⟩
  | succ r ih =>
    intro a
    rw [List.range'_succ]
    refine ⟨fun h => ?_, fun n h1 h2 h3 h4 => ?_⟩
    · rw [List.find?_cons_of_neg (by rw [h a (by omega) (by omega)]; simp)]
      exact (ih (a + 1)).1 (fun j h1 h2 => h j (by omega) (by omega))
    · by_cases e : n = a
      · subst e; rw [List.find?_cons_of_pos h3]
      · rw [List.find?_cons_of_neg (by rw [h4 a (by omega) (by omega)]; simp)]
        exact (ih (a + 1)).2 n (by omega) (by omega) h3 (fun j h1 h2 => h4 j (by omega) h2)
theorem fnd_none (f : Nat → Bool) (h : ∀ j, 1 ≤ j → j ≤ 17 → f j = false) : fndP f = 0 := by
  unfold fndP; rw [(find_go f 17 1).1 (fun j h1 h2 => h j h1 (by omega))]; rfl
theorem fnd_some (f : Nat → Bool) (n : Nat) (h1 : 1 ≤ n) (h2 : n ≤ 17) (h3 : f n = true) (h4 : ∀ j, 1 ≤ j → j < n → f j = false) : fndP f = n := by
  unfold fndP; rw [(find_go f 17 1).2 n h1 (by omega) h3 h4]; rfl
theorem setN_nat (k : Nat) (h : 1 ≤ k ∧ k ≤ 17) : setN (k : Int) = k := by unfold setN; rw [if_pos (by omega)]; omega


end Go.Proofs.YtmhccngfmjggoaaDoor

/-
  The walks of how many sets there are, of a set's name and its id; what is fixed of them all.
  The words of an id's text; is a text among others: slices.Contains over a row of texts.
  The walks of what is asked of a set; the first set that fits; the set of an id.
  The walks of the first set that fits, and of the set of an id.
-/
import Derived.Test.YtfnamfkjbkhgeaaGreatDoorChsD
import Derived.Test.YtfnamfkjbkhgeaaGreatDoorShelf
import Derived.Test.YtfnamfkjbkhgeaaGreatDoorMixE
import Derived.Lib.SmallJoins
namespace Go.Proofs.YtfnamfkjbkhgeaaGreatDoor

open Go Go.RowKit


def natB (x : Int) : Bool := decide (6 ≤ x) && decide (x ≤ 17)


/-- A set's id. -/
def cIdP : Nat → ByteArray
  | 1 => ⟨#[66]⟩
  | 2 => ⟨#[48]⟩
  | 3 => ⟨#[62]⟩
  | 4 => ⟨#[37, 53]⟩
  | 5 => ⟨#[65]⟩
  | 6 => ⟨#[65]⟩
  | 7 => ⟨#[52]⟩
  | 8 => ⟨#[53]⟩
  | 9 => ⟨#[82]⟩
  | 10 => ⟨#[57]⟩
  | 11 => ⟨#[75]⟩
  | 12 => ⟨#[89]⟩
  | 13 => ⟨#[96]⟩
  | 14 => ⟨#[37, 54]⟩
  | 15 => ⟨#[90]⟩
  | 16 => ⟨#[55]⟩
  | 17 => ⟨#[61]⟩
  | _ => ⟨#[]⟩
theorem id_cut : ∀ k, k < 18 → (Lib.indexByte (idsP k).data.toList 32 = -1 ∧ idsP k = cIdP k) ∨ ∃ i : Nat, Lib.indexByte (idsP k).data.toList 32 = i ∧ i < (idsP k).size ∧ (idsP k).extract 0 i = cIdP k
  | 0, _ => .inl ⟨by kernel_rfl, rfl⟩
  | 1, _ => .inl ⟨by kernel_rfl, rfl⟩
  | 2, _ => .inr ⟨1, by kernel_rfl, by decide, by kernel_rfl⟩
  | 3, _ => .inl ⟨by kernel_rfl, rfl⟩
  | 4, _ => .inl ⟨by kernel_rfl, rfl⟩
  | 5, _ => .inl ⟨by kernel_rfl, rfl⟩
  | 6, _ => .inl ⟨by kernel_rfl, rfl⟩
  | 7, _ => .inl ⟨by kernel_rfl, rfl⟩
  | 8, _ => .inr ⟨1, by kernel_rfl, by decide, by kernel_rfl⟩
  | 9, _ => .inr ⟨1, by kernel_rfl, by decide, by kernel_rfl⟩
  | 10, _ => .inr ⟨1, by kernel_rfl, by decide, by kernel_rfl⟩
  | 11, _ => .inl ⟨by kernel_rfl, rfl⟩
  | 12, _ => .inl ⟨by kernel_rfl, rfl⟩
  | 13, _ => .inr ⟨1, by kernel_rfl, by decide, by kernel_rfl⟩
  | 14, _ => .inl ⟨by kernel_rfl, rfl⟩
  | 15, _ => .inl ⟨by kernel_rfl, rfl⟩
  | 16, _ => .inr ⟨1, by kernel_rfl, by decide, by kernel_rfl⟩
  | 17, _ => .inl ⟨by kernel_rfl, rfl⟩
  | n + 18, h => absurd h (by omega)
theorem ids_size : ∀ k, k < 18 → (idsP k).size ≤ 100000 := by decide +kernel
set_option maxHeartbeats 2000000 in
set_option maxRecDepth 100000 in
theorem index_any (s : ByteArray) (w : World) :
    Calls Tryz.prog 142 #[.string s, .string ⟨#[32]⟩] w fun e w' => e = .returned (.int .i64 (Lib.indexByte s.data.toList 32)) ∧ w = w' := by
  have HI := Lib.hid (fun W => cIndexByte_any s 32 W)
  rw [show (32 : Int).toNat.toUInt8 = 32 from rfl] at HI
  by_cases h : s = ⟨#[32]⟩
  · subst h
    go_enter Tryz.func142, Tryz.ntmps142
    go_wp2_with (go_at_call 167; refine (HI.out _).mono ?_; rintro e w1 ⟨rfl, rfl⟩)
    go_ret
    exact ⟨rfl, rfl⟩
  · have hne : (([32] : List UInt8) == s.toList) = false := by
      rw [beq_eq_false_iff_ne]
      intro e
      apply h
      have e2 : s.data.toList = [32] := by rw [← ByteArray.toList_eq]; exact e.symm
      obtain ⟨⟨l⟩⟩ := s
      simp at e2
      rw [e2]
    clear h
    generalize Lib.indexByte s.data.toList 32 = x at *
    go_enter Tryz.func142, Tryz.ntmps142
    go_wp2_with (go_at_call 167; refine (HI.out _).mono ?_; rintro e w1 ⟨rfl, rfl⟩)
    go_ret
    exact ⟨rfl, rfl⟩
set_option maxHeartbeats 2000000 in
theorem cut_no (s : ByteArray) (h : Lib.indexByte s.data.toList 32 = -1) (w : World) :
    Calls Tryz.prog 104 #[.string s, .string ⟨#[32]⟩] w fun e w' => e = .returned (.tuple #[.string s, .string ⟨#[]⟩, .bool false]) ∧ Below w.heap.size w w' := by
  have HI := Lib.hid (fun W => index_any s W)
  rw [h] at HI
  clear h
  have HC : Hid (∀ W, Calls Tryz.prog 132 #[.string s, .string ⟨#[32]⟩] W fun e w' => e = .returned (.tuple #[.string s, .string ⟨#[]⟩, .bool false]) ∧ Below W.heap.size W w') := Lib.hid (fun W => by
    go_enter Tryz.func132, Tryz.ntmps132
    go_wp2_with (go_at_call 142; refine (HI.out _).mono ?_; rintro e w1 ⟨rfl, rfl⟩)
    go_ret3
    exact ⟨rfl, Below.refl _ _⟩)
  go_enter Tryz.func104, Tryz.ntmps104
  go_wp2_with (go_at_call 132; refine (HC.out _).mono ?_; rintro e w1 ⟨rfl, hb1⟩; have HB := Lib.hid hb1; clear hb1)
  go_ret3
  exact ⟨rfl, HB.out⟩
set_option maxHeartbeats 2000000 in
theorem cut_yes (s : ByteArray) (i : Nat) (h : Lib.indexByte s.data.toList 32 = i) (hi : i < s.size) (hs : s.size ≤ 100000) (w : World) :
    Calls Tryz.prog 104 #[.string s, .string ⟨#[32]⟩] w fun e w' => e = .returned (.tuple #[.string (s.extract 0 i), .string (s.extract (i + 1) s.size), .bool true]) ∧ Below w.heap.size w w' := by
  have HI := Lib.hid (fun W => index_any s W)
  rw [h] at HI
  clear h
  have HC : Hid (∀ W, Calls Tryz.prog 132 #[.string s, .string ⟨#[32]⟩] W fun e w' => e = .returned (.tuple #[.string (s.extract 0 i), .string (s.extract (i + 1) s.size), .bool true]) ∧ Below W.heap.size W w') := Lib.hid (fun W => by
    have c1 : (0 : Int) ≤ ↑i := by omega
    have c2 : (↑i : Int) ≤ ↑s.size := by omega
    have c3 : (0 : Int) ≤ ↑i + 1 := by omega
    have c4 : (↑i + 1 : Int) ≤ ↑s.size := by omega
    go_enter Tryz.func132, Tryz.ntmps132
    go_wp2_with (go_at_call 142; refine (HI.out _).mono ?_; rintro e w1 ⟨rfl, rfl⟩)
    go_quiet (fail)
    go_wp2
    go_ret3
    exact ⟨rfl, below_drewN (Below.refl _ _) _⟩)
  go_enter Tryz.func104, Tryz.ntmps104
  go_wp2_with (go_at_call 132; refine (HC.out _).mono ?_; rintro e w1 ⟨rfl, hb1⟩; have HB := Lib.hid hb1; clear hb1)
  go_ret3
  exact ⟨rfl, HB.out⟩
theorem cut_id (k : Nat) (hk : k < 18) (w : World) : Calls Tryz.prog 104 #[.string (idsP k), .string ⟨#[32]⟩] w fun e w' => ∃ b c, e = .returned (.tuple #[.string (cIdP k), .string b, .bool c]) ∧ Below w.heap.size w w' := by
  rcases id_cut k hk with ⟨h, e⟩ | ⟨i, h, hi, e⟩
  · exact (cut_no _ h w).mono fun _ _ ⟨h1, h2⟩ => ⟨⟨#[]⟩, false, by rw [h1, e], h2⟩
  · exact (cut_yes _ i h hi (ids_size k hk) w).mono fun _ _ ⟨h1, h2⟩ => ⟨(idsP k).extract (i + 1) (idsP k).size, true, by rw [h1, e], h2⟩
theorem setN_lt (x : Int) : setN x < 18 := by unfold setN; split <;> omega
set_option maxHeartbeats 2000000 in
theorem cId_any (x : Int) (w : World) (ht : Faces w) : Calls Tryz.prog 69 #[.int .i64 x] w fun e w' => e = .returned (.tuple #[.string (cIdP (setN x)), .bool (wideP (setN x))]) ∧ Below w.heap.size w w' := by
  have HF := Lib.hid (faceOf_any x w ht)
  have HC := Lib.hid (fun W => cut_id (setN x) (setN_lt x) W)
  unfold faceV at HF
  generalize wideP (setN x) = wd at *
  generalize nmP (setN x) = nm at *
  generalize idsP (setN x) = ids at *
  generalize cIdP (setN x) = id at *
  generalize aboP (setN x) = ab at *
  go_enter Tryz.func69, Tryz.ntmps69
  go_wp2_with fail
  refine HF.out.mono ?_
  rintro e w1 ⟨rfl, hb1⟩
  have HB := Lib.hid hb1
  clear hb1
  go_wp2_with fail
  have HA : Hid (Blk (w1.alloc (.cells #[.string nm, .string ids, .bool wd, .int .i32 ab] 175)) w1.heap.size 175 #[.string nm, .string ids, .bool wd, .int .i32 ab]) := Lib.hid (Blk.new w1 _ _)
  have HB1 := Lib.hid (HB.out.alloc HB.out.size (.cells #[.string nm, .string ids, .bool wd, .int .i32 ab] 175))
  refine (HC.out _).mono ?_
  rintro e w2 ⟨b, c, rfl, hb2⟩
  have HB2 := Lib.hid (HB1.out.trans (hb2.mono HB1.out.size))
  have hcell := (HA.out.next hb2).cell 2
  clear hb2 HA
  go_wp2_with fail
  go_quiet (fail)
  go_wp2
  go_ret2
  exact ⟨rfl, below_drewN HB2.out _⟩

end Go.Proofs.YtfnamfkjbkhgeaaGreatDoor

namespace Go.Proofs.YtfnamfkjbkhgeaaGreatDoor

open Go Go.RowKit

/-- The world holds the library's table of blanks. -/
def Blanks (w : World) : Prop := Lib.TabIs Tryz.prog w "strings.asciiSpace" .u8 Lib.asciiSpaceTab
/-- The ids of a set. -/
def wordsP (k : Nat) : List ByteArray := (Lib.fields (idsP k).data.toList).map fun l => ⟨l.toArray⟩
def strV (L : List ByteArray) : Array Value := (L.map Value.string).toArray
theorem words_len : ∀ k, k < 18 → (wordsP k).length ≤ 3 := by decide +kernel
theorem ids_ascii : ∀ k, k < 18 → ((idsP k).data.toList.all fun b => decide (b.toNat < 128)) = true := by decide +kernel
theorem fields_any (k : Nat) (hk : k < 18) (w : World) (ht : Blanks w) :
    Calls Tryz.prog 194 #[.string (idsP k)] w fun e w' => e = .returned (.slice (some ⟨w.heap.size, 0, none⟩) (wordsP k).length (wordsP k).length) ∧ w' = w.alloc (.cells (strV (wordsP k)) 9) := by
  have h := Tryz.strings_Fields (idsP k) w (by have := ids_size k hk; omega) (fun j b hb => by
    have h2 := List.all_eq_true.1 (ids_ascii k hk) b (List.mem_of_getElem? hb)
    simpa using h2) ht
  refine h.mono fun e w' ⟨h1, h2⟩ => ?_
  have e1 : (wordsP k).length = (Lib.fields (idsP k).data.toList).length := by unfold wordsP; rw [List.length_map]
  have e2 : strV (wordsP k) = ((Lib.fields (idsP k).data.toList).map fun l => Value.string ⟨l.toArray⟩).toArray := by unfold strV wordsP; rw [List.map_map]; rfl
  rw [e1, e2]
  exact ⟨h1, h2⟩
theorem cStr_cell {w : World} {g : Nat} {t : TypeId} {L : List ByteArray} (h : Blk w g t (strV L)) (k : Nat) (hk : k < L.length) : w.cell? ⟨g, k, none⟩ = some (.string L[k]) := by
  rw [h.cell k]
  unfold strV
  simp [List.getElem?_eq_getElem hk]
/-- Is a text among others? -/
def hasB (L : List ByteArray) (id : ByteArray) : Bool := L.any fun x => id.toList == x.toList
set_option maxRecDepth 100000 in
set_option maxHeartbeats 2000000 in
theorem contains_any (g : Nat) (L : List ByteArray) (hL : L.length ≤ 1000) (id : ByteArray) (w : World) (hb : Blk w g 9 (strV L)) :
    Calls Tryz.prog 193 #[.slice (some ⟨g, 0, none⟩) L.length L.length, .string id] w fun e w' => e = .returned (.bool (hasB L id)) ∧ w = w' := by
  have HB := Lib.hid hb
  clear hb
  have HI : Hid (Calls Tryz.prog 199 #[.slice (some ⟨g, 0, none⟩) L.length L.length, .string id] w fun e w' => (∃ z : Int, e = .returned (.int .i64 z) ∧ decide (0 ≤ z) = hasB L id) ∧ w = w') := Lib.hid (by
    go_enter Tryz.func199, Tryz.ntmps199
    go_wp2_with fail
    go_loopw [8] (fun i wr => ∃ k : Nat, k ≤ L.length ∧ i = .int .i64 k ∧ wr = w ∧ hasB (L.take k) id = false) (fun i _ => L.length - (intOf i).toNat)
    case atStart => exact ⟨0, by omega, rfl, rfl, rfl⟩
    case round =>
      obtain ⟨k, hk, rfl, rfl, hno⟩ := hrel
      have HNo := Lib.hid hno
      clear hno
      by_cases hlt : k < L.length
      · have hc := cStr_cell HB.out k hlt
        have HT : Hid (hasB (L.take (k + 1)) id = (hasB (L.take k) id || (id.toList == L[k].toList))) := Lib.hid (by unfold hasB; rw [take_snoc L k hlt, List.any_append]; simp)
        have HM : Hid ((id.toList == L[k].toList) = true → hasB L id = true) := Lib.hid (fun h => List.any_eq_true.2 ⟨_, List.getElem_mem hlt, h⟩)
        have hw : IntKind.i64.wrap ((k : Int) + 1) = (k : Int) + 1 := IntWalk.i64_in _ (by omega)
        generalize L[k] = x at *
        rcases hx : (id.toList == x.toList) with _ | _
        · rw [hx, HNo.out] at HT
          clear HM
          go_wp2_with fail
          go_roundw
          case rel => exact ⟨k + 1, by omega, by first | rfl | go_num, by first | rfl | trivial, HT.out⟩
          case measure => simp [intOf]; omega
        · have hd := HM.out hx
          have HD := Lib.hid hd
          clear hd HT
          go_wp2_with fail
          go_ret
          exact ⟨⟨_, rfl, by rw [HD.out]; simp⟩, by first | rfl | trivial⟩
      · obtain rfl : k = L.length := by omega
        have hd : hasB L id = false := by have := HNo.out; rwa [List.take_length] at this
        have HD := Lib.hid hd
        clear hd
        go_wp2_with fail
        go_ret
        exact ⟨⟨_, rfl, by rw [HD.out]; simp⟩, by first | rfl | trivial⟩)
  generalize hasB L id = b at *
  go_enter Tryz.func193, Tryz.ntmps193
  go_wp2_with fail
  refine HI.out.mono ?_
  rintro e w1 ⟨⟨z, rfl, hz⟩, rfl⟩
  go_wp2_with fail
  go_ret
  exact ⟨rfl, rfl⟩
end Go.Proofs.YtfnamfkjbkhgeaaGreatDoor

namespace Go.Proofs.YtfnamfkjbkhgeaaGreatDoor

open Go Go.RowKit

def metP (wide : Bool) (id : ByteArray) (k : Nat) : Bool := (wideP k == wide) && hasB (wordsP k) id
def wishV (wide : Bool) (id : ByteArray) : Value := .agg #[.bool wide, .string id]
theorem Blanks.next {w w' : World} (h : Blanks w) (hb : Below w.heap.size w w') : Blanks w' := Go.Joins.tab_stays (by kernel_rfl : Tryz.prog.globalNamed "strings.asciiSpace" = some 9) h hb (Nat.le_refl _)
/-- A slice of texts as a letter. -/
def StP (n : Nat) (u : Value) : Prop := ∃ g, u = .slice (some ⟨g, 0, none⟩) n n
def StF (B : Nat) (L : List ByteArray) (u : Value) (W : World) : Prop := ∃ g, u = .slice (some ⟨g, 0, none⟩) L.length L.length ∧ B ≤ g ∧ Blk W g 9 (strV L)
theorem stF_stab (ks : Kinds) (wr : World) (L : List ByteArray) (ht : 9 ∉ boxes ks) : ∀ v w w', Kept ks wr w w' → StF wr.heap.size L v w → StF wr.heap.size L v w' := by
  rintro v w w' hk ⟨g, e, hg, hb⟩
  refine ⟨g, e, hg, ?_⟩
  refine (hk.block g hb.lt hg (fun cs T fr e2 => ?_)).trans hb
  have e3 : some (Obj.cells (strV L) 9 (0, 0)) = some (.cells cs T fr) := (show w.heap[g]? = _ from hb).symm.trans e2
  injection e3 with e3
  injection e3 with _ e4 _
  rw [← e4]; exact ht
theorem fields_letter {W : World} {B : Nat} (k : Nat) (hk : k < 18) (hB : B ≤ W.heap.size) (ht : Blanks W) : Calls Tryz.prog 194 #[.string (idsP k)] W fun e w' => ∃ u, e = .returned u ∧ StP (wordsP k).length u ∧ StF B (wordsP k) u w' ∧ Below W.heap.size W w' :=
  (fields_any k hk W ht).mono fun e w' ⟨h1, h2⟩ => by
    subst h2
    exact ⟨_, h1, ⟨_, rfl⟩, ⟨_, rfl, hB, Blk.new W _ _⟩, (Below.refl _ _).alloc (Nat.le_refl _) _⟩
theorem contains_letter {W : World} {B : Nat} {L : List ByteArray} {v : Value} (hL : L.length ≤ 1000) (id : ByteArray) (h : StF B L v W) : Calls Tryz.prog 193 #[v, .string id] W fun e w' => e = .returned (.bool (hasB L id)) ∧ Below W.heap.size W w' := by
  obtain ⟨g, rfl, _, hb⟩ := h
  exact (contains_any g L hL id W hb).mono fun e w' ⟨h1, h2⟩ => ⟨h1, by subst h2; exact Below.refl _ _⟩
set_option maxRecDepth 100000 in
set_option maxHeartbeats 4000000 in
theorem met_any (wide : Bool) (id : ByteArray) (x : Int) (w : World) (ht : Faces w) (hs : Blanks w) :
    Calls Tryz.prog 173 #[wishV wide id, .int .i64 x] w fun e w' => e = .returned (.bool (metP wide id (setN x))) ∧ Below w.heap.size w w' := by
  have HF := Lib.hid (fun W t => faceOf_any x W t)
  unfold wishV metP
  unfold faceV at HF
  have hk := setN_lt x
  have HFi := Lib.hid (fun (W : World) (B : Nat) (hB : B ≤ W.heap.size) t => fields_letter (W := W) (B := B) (setN x) hk hB t)
  have hwl := words_len (setN x) hk
  generalize wideP (setN x) = wd at *
  generalize nmP (setN x) = nm at *
  generalize idsP (setN x) = ids at *
  generalize aboP (setN x) = ab at *
  have HC := Lib.hid (fun (W : World) (B : Nat) (v : Value) (h : StF B (wordsP (setN x)) v W) => contains_letter (by omega) id h)
  generalize hasB (wordsP (setN x)) id = has at *
  generalize wordsP (setN x) = L at *
  have HB0 := Lib.hid (show Below w.heap.size w (w.alloc (.cells #[.bool wide, .string id] 221)) from (Below.refl _ _).alloc (Nat.le_refl _) _)
  have HW0 := Lib.hid (Blk.new w 221 #[.bool wide, .string id])
  have HT := Lib.hid ht
  have HS := Lib.hid hs
  have hpos := ht.1
  clear hs
  go_enter Tryz.func173, Tryz.ntmps173
  go_wp2_with fail
  refine (HF.out _ (HT.out.below hpos HB0.out)).mono ?_
  rintro e w1 ⟨rfl, hb1⟩
  have HB1 := Lib.hid (HB0.out.trans (hb1.mono HB0.out.size)); have HW1 := Lib.hid (HW0.out.next hb1)
  clear hb1
  go_wp2_with fail
  have HB2 := Lib.hid (HB1.out.alloc HB1.out.size (.cells #[.string nm, .string ids, .bool wd, .int .i32 ab] 175))
  have HW2 := Lib.hid (Blk.alloc HW1.out (.cells #[.string nm, .string ids, .bool wd, .int .i32 ab] 175))
  have HF2 := Lib.hid (Blk.new w1 175 #[.string nm, .string ids, .bool wd, .int .i32 ab])
  generalize w1.heap.size = f at *
  generalize w1.alloc (.cells #[.string nm, .string ids, .bool wd, .int .i32 ab] 175) = W1 at *
  have HCe : Hid (∀ w', Only [] W1 w' → w'.cell? ⟨f, 1, none⟩ = some (.string ids) ∧ w'.cell? ⟨f, 2, none⟩ = some (.bool wd) ∧ w'.cell? ⟨w.heap.size, 0, none⟩ = some (.bool wide) ∧ w'.cell? ⟨w.heap.size, 1, none⟩ = some (.string id)) := Lib.hid (fun w' h => ⟨(HF2.out.next h.below0).cell 1, (HF2.out.next h.below0).cell 2, (HW2.out.next h.below0).cell 0, (HW2.out.next h.below0).cell 1⟩)
  rcases hq : (wd == wide) with _ | _
  · refine wp_region_mix_lit (by kernel_rfl) [] (by kernel_rfl) (by kernel_rfl) (by kernel_rfl) (by rfl) (by simp [apartK] <;> omega) (by simp [startK]) (by simp [stabK]) (⟨fun _ => undef, by simp [okK]⟩) (fun β hβ => ?_)
    repeat (
      refine lex_val (v := ?_) rfl rfl (fun w' hf => ?_) ?_
      rotate_left
      · obtain ⟨c0', c1', c2', c3'⟩ := HCe.out w' hf.only; go_simp
        try rfl
      try simp only [Act.put, List.setIfInBounds_toArray, List.set_cons_zero, List.set_cons_succ])
    repeat (
      refine lex_skip rfl rfl ?_
      try simp only [Act.put, List.setIfInBounds_toArray, List.set_cons_zero, List.set_cons_succ])
    repeat (
      refine lex_val (v := ?_) rfl rfl (fun w' hf => ?_) ?_
      rotate_left
      · obtain ⟨c0', c1', c2', c3'⟩ := HCe.out w' hf.only; go_simp
        try rfl
      try simp only [Act.put, List.setIfInBounds_toArray, List.set_cons_zero, List.set_cons_succ])
    refine lex_nil fun w' he => ?_
    have HB3 := Lib.hid (HB2.out.trans (he.only.below0.mono HB2.out.size))
    clear he
    go_wp2_with fail
    go_ret
    exact ⟨ret_bool (by rw [hq]; rfl), HB3.out⟩
  · refine wp_region_mix_lit (by kernel_rfl) [(8, .letter (StP L.length) (StF W1.heap.size L)), (11, .call (.bool has))] (by kernel_rfl) (by kernel_rfl) (by kernel_rfl) (by rfl) (by simp [apartK] <;> omega) (by simp [startK]) (by repeat (first | (refine List.forall_mem_cons.2 ⟨?_, ?_⟩; (first | exact trivial | exact stF_stab _ _ _ (by simp [boxes, Kind.boxed]))) | (intro x hx; cases hx; done))) (⟨fun _ => .slice (some ⟨0, 0, none⟩) L.length L.length, by repeat (first | (refine List.forall_mem_cons.2 ⟨?_, ?_⟩; (first | exact trivial | exact ⟨0, rfl⟩)) | (intro x hx; cases hx; done))⟩) (fun β hβ => ?_)
    repeat (
      refine lex_val (v := ?_) rfl rfl (fun w' hf => ?_) ?_
      rotate_left
      · obtain ⟨c0', c1', c2', c3'⟩ := HCe.out w' hf.only; go_simp
        try rfl
      try simp only [Act.put, List.setIfInBounds_toArray, List.set_cons_zero, List.set_cons_succ])
    refine lex_letter (f := 194) (args := ?_) rfl rfl (fun w' hf => ?_) (fun w' hf => ?_) ?_
    rotate_left
    · obtain ⟨c0', c1', c2', c3'⟩ := HCe.out w' hf.only; go_simp
      try rfl
    · obtain ⟨c0', c1', c2', c3'⟩ := HCe.out w' hf.only; exact HFi.out w' W1.heap.size hf.only.size (HS.out.next (HB2.out.trans (hf.only.below0.mono HB2.out.size)))
    try simp only [Act.put, List.setIfInBounds_toArray, List.set_cons_zero, List.set_cons_succ]
    repeat (
      refine lex_val (v := ?_) rfl rfl (fun w' hf => ?_) ?_
      rotate_left
      · obtain ⟨c0', c1', c2', c3'⟩ := HCe.out w' hf.only; go_simp
        try rfl
      try simp only [Act.put, List.setIfInBounds_toArray, List.set_cons_zero, List.set_cons_succ])
    refine lex_call (f := 193) (args := ?_) rfl rfl (fun w' hf => ?_) (fun w' hf => ?_) ?_
    rotate_left
    · obtain ⟨c0', c1', c2', c3'⟩ := HCe.out w' hf.only; go_simp
      try rfl
    · obtain ⟨c0', c1', c2', c3'⟩ := HCe.out w' hf.only; exact HC.out w' _ _ (hf.got 8 _ _ rfl (by kernel_rfl))
    try simp only [Act.put, List.setIfInBounds_toArray, List.set_cons_zero, List.set_cons_succ]
    repeat (
      refine lex_val (v := ?_) rfl rfl (fun w' hf => ?_) ?_
      rotate_left
      · obtain ⟨c0', c1', c2', c3'⟩ := HCe.out w' hf.only; go_simp
        try rfl
      try simp only [Act.put, List.setIfInBounds_toArray, List.set_cons_zero, List.set_cons_succ])
    refine lex_nil fun w' he => ?_
    have HB3 := Lib.hid (HB2.out.trans (he.only.below0.mono HB2.out.size))
    clear he
    go_wp2_with fail
    go_ret
    exact ⟨ret_bool (by rw [hq]; rfl), HB3.out⟩
end Go.Proofs.YtfnamfkjbkhgeaaGreatDoor

namespace Go.Proofs.YtfnamfkjbkhgeaaGreatDoor

open Go Go.RowKit

/-- The first set that fits, or none. -/
def fndP (f : Nat → Bool) : Nat := ((List.range' 1 17).find? f).getD 0
theorem find_go (f : Nat → Bool) : ∀ r a, ((∀ j, a ≤ j → j < a + r → f j = false) → (List.range' a r).find? f = none) ∧ (∀ n, a ≤ n → n < a + r → f n = true → (∀ j, a ≤ j → j < n → f j = false) → (List.range' a r).find? f = some n) := by
  intro r
  induction r with
  | zero => intro a; exact ⟨fun _ => rfl, fun n h1 h2 => by omega⟩
  | succ r ih =>
    intro a
    rw [List.range'_succ]
    refine ⟨fun h => ?_, fun n h1 h2 h3 h4 => ?_⟩
    · rw [List.find?_cons_of_neg (by rw [h a (by omega) (by omega)]; simp)]
      exact (ih (a + 1)).1 (fun j h1 h2 => h j (by omega) (by omega))
    · by_cases e : n = a
      · subst e; rw [List.find?_cons_of_pos h3]
      · rw [List.find?_cons_of_neg (by rw [h4 a (by omega) (by omega)]; simp)]
        exact (ih (a + 1)).2 n (by omega) (by omega) h3 (fun j h1 h2 => h4 j (by omega) h2)
theorem fnd_none (f : Nat → Bool) (h : ∀ j, 1 ≤ j → j ≤ 17 → f j = false) : fndP f = 0 := by
  unfold fndP; rw [(find_go f 17 1).1 (fun j h1 h2 => h j h1 (by omega))]; rfl
theorem fnd_some (f : Nat → Bool) (n : Nat) (h1 : 1 ≤ n) (h2 : n ≤ 17) (h3 : f n = true) (h4 : ∀ j, 1 ≤ j → j < n → f j = false) : fndP f = n := by
  unfold fndP; rw [(find_go f 17 1).2 n h1 (by omega) h3 h4]; rfl
theorem setN_nat (k : Nat) (h : 1 ≤ k ∧ k ≤ 17) : setN (k : Int) = k := by unfold setN; rw [if_pos (by omega)]; omega
set_option maxRecDepth 100000 in
set_option maxHeartbeats 2000000 in
theorem firstSet_any (wide : Bool) (id : ByteArray) (w : World) (ht : Faces w) (hs : Blanks w) :
    Calls Tryz.prog 172 #[.func (.func 173) #[wishV wide id] #[]] w fun e w' => e = .returned (.tuple #[.int .i64 (fndP (metP wide id)), .bool (fndP (metP wide id) != 0)]) ∧ Below w.heap.size w w' := by
  have HM : Hid (∀ (k : Nat), 1 ≤ k → k ≤ 17 → ∀ W, Faces W → Blanks W → Calls Tryz.prog 173 #[wishV wide id, .int .i64 k] W fun e w' => e = .returned (.bool (metP wide id k)) ∧ Below W.heap.size W w') := Lib.hid (fun k h1 h2 W t s => by
    have := met_any wide id k W t s
    rwa [setN_nat k ⟨h1, h2⟩] at this)
  have HI : Hid (∀ (k : Nat) W, Calls Tryz.prog 131 #[.int .i64 k] W fun e w' => e = .returned (.bool (decide (1 ≤ setN k))) ∧ W = w') := Lib.hid (fun k W => isSet_any k W)
  have hE : ∀ args W, (callFunc 173 args).run Tryz.prog W = .ok (.enter 173 args) W := Tryz.call173
  have HN := Lib.hid (fnd_none (metP wide id)); have HS := Lib.hid (fnd_some (metP wide id))
  generalize metP wide id = f at *
  generalize fndP f = n at *
  have HT := Lib.hid ht; have HB := Lib.hid hs
  clear ht hs
  go_enter Tryz.func172, Tryz.ntmps172
  go_wp2_with fail
  go_loopw [4] (fun i wr => ∃ k : Nat, 1 ≤ k ∧ k ≤ 18 ∧ i = .int .i64 k ∧ Faces wr ∧ Blanks wr ∧ Below w.heap.size w wr ∧ ∀ j, 1 ≤ j → j < k → f j = false) (fun i _ => 18 - (intOf i).toNat)
  case atStart => exact ⟨1, by omega, by omega, rfl, HT.out, HB.out, Below.refl _ _, fun j h1 h2 => by omega⟩
  case round =>
    obtain ⟨k, hk1, hk2, rfl, ht, hs, hb, hno⟩ := hrel
    have HT1 := Lib.hid ht; have HS1 := Lib.hid hs; have HB1 := Lib.hid hb; have HNo := Lib.hid hno
    have HIk := Lib.hid (HI.out k)
    clear ht hs hb hno
    by_cases hlt : k < 18
    · have e : setN (k : Int) = k := setN_nat k (by omega)
      rw [e, decide_eq_true hk1] at HIk
      have HMk := Lib.hid (HM.out k hk1 (by omega))
      have hw : IntKind.i64.wrap ((k : Int) + 1) = (k : Int) + 1 := IntWalk.i64_in _ (by omega)
      rcases hf : f k with _ | _
      · rw [hf] at HMk
        have HNo2 : Hid (∀ j, 1 ≤ j → j < k + 1 → f j = false) := Lib.hid (fun j h1 h2 => by
          by_cases ej : j = k
          · rw [ej]; exact hf
          · exact HNo.out j h1 (by omega))
        clear hf e
        go_wp2_with fail
        refine (HIk.out _).mono ?_
        rintro e w1 ⟨rfl, rfl⟩
        go_wp2_with fail
        refine (HMk.out _ HT1.out HS1.out).mono ?_
        rintro e w1 ⟨rfl, hb1⟩
        have HT2 := Lib.hid (HT1.out.next hb1); have HS2 := Lib.hid (HS1.out.next hb1); have HB2 := Lib.hid (HB1.out.trans (hb1.mono HB1.out.size))
        clear hb1
        go_wp2_with fail
        go_roundw
        case rel => exact ⟨k + 1, by omega, by omega, by first | rfl | go_num, HT2.out, HS2.out, HB2.out, HNo2.out⟩
        case measure => simp [intOf]; omega
      · rw [hf] at HMk
        have HR := Lib.hid (HS.out k hk1 (by omega) hf HNo.out)
        have hk0 : (k != 0) = true := by simp; omega
        clear hf e
        go_wp2_with fail
        refine (HIk.out _).mono ?_
        rintro e w1 ⟨rfl, rfl⟩
        go_wp2_with fail
        refine (HMk.out _ HT1.out HS1.out).mono ?_
        rintro e w1 ⟨rfl, hb1⟩
        have HB2 := Lib.hid (HB1.out.trans (hb1.mono HB1.out.size))
        clear hb1
        go_wp2_with fail
        go_ret2
        exact ⟨by rw [HR.out, hk0]; rfl, HB2.out⟩
    · obtain rfl : k = 18 := by omega
      have e : setN ((18 : Nat) : Int) = 0 := rfl
      rw [e] at HIk
      have HR := Lib.hid (HN.out (fun j h1 h2 => HNo.out j h1 (by omega)))
      clear e
      go_wp2_with fail
      refine (HIk.out _).mono ?_
      rintro e w1 ⟨rfl, rfl⟩
      go_wp2_with fail
      go_ret2
      exact ⟨by rw [HR.out]; rfl, HB1.out⟩
set_option maxHeartbeats 1000000 in
theorem find_any (wide : Bool) (id : ByteArray) (w : World) (ht : Faces w) (hs : Blanks w) :
    Calls Tryz.prog 144 #[.bool wide, .string id] w fun e w' => e = .returned (.tuple #[.int .i64 (fndP (metP wide id)), .bool (fndP (metP wide id) != 0)]) ∧ Below w.heap.size w w' := by
  have HF := Lib.hid (firstSet_any wide id w ht hs)
  unfold wishV at HF
  have hmf : ∀ fn first cap W, (Instr.makeFunc fn first cap).run Tryz.prog W = .ok (.func fn first cap) W := fun _ _ _ _ => rfl
  generalize fndP (metP wide id) = n at *
  go_enter Tryz.func144, Tryz.ntmps144
  go_wp2_with fail
  refine HF.out.mono ?_
  rintro e w1 ⟨rfl, hb1⟩
  have HB := Lib.hid hb1
  clear hb1
  go_wp2_with fail
  go_ret2
  exact ⟨rfl, HB.out⟩
end Go.Proofs.YtfnamfkjbkhgeaaGreatDoor

/-
  The words of an id's text; is a text among others: slices.Contains over a row of texts.
-/
import Derived.Test.YtandfpghjbbalaaDoorChsJ
import Derived.Test.YtandfpghjbbalaaDoorShelf
namespace Go.Proofs.YtandfpghjbbalaaDoor
open Go Go.RowKit

/-- The world holds the library's table of blanks. -/
def Blanks (w : World) : Prop := Lib.TabIs Tryd.prog w "strings.asciiSpace" .u8 Lib.asciiSpaceTab
/-- The ids of a set. -/
def wordsP (k : Nat) : List ByteArray := (Lib.fields (idsP k).data.toList).map fun l => ⟨l.toArray⟩
def strV (L : List ByteArray) : Array Value := (L.map Value.string).toArray
theorem words_len : ∀ k, k < 18 → (wordsP k).length ≤ 3 := by decide +kernel
theorem ids_ascii : ∀ k, k < 18 → ((idsP k).data.toList.all fun b => decide (b.toNat < 128)) = true := by decide +kernel
theorem fields_any (k : Nat) (hk : k < 18) (w : World) (ht : Blanks w) :
    Calls Tryd.prog 64 #[.string (idsP k)] w fun e w' => e = .returned (.slice (some ⟨w.heap.size, 0, none⟩) (wordsP k).length (wordsP k).length) ∧ w' = w.alloc (.cells (strV (wordsP k)) 9) := by
  have h := Tryd.strings_Fields (idsP k) w (by have := ids_size k hk; omega) (fun j b hb => by
    have h2 := List.all_eq_true.1 (ids_ascii k hk) b (List.mem_of_getElem? hb)
    simpa using h2) ht
  refine h.mono fun e w' ⟨h1, h2⟩ => ?_
  have e1 : (wordsP k).length = (Lib.fields (idsP k).data.toList).length := by unfold wordsP; rw [List.length_map]
  have e2 : strV (wordsP k) = ((Lib.fields (idsP k).data.toList).map fun l => Value.string ⟨l.toArray⟩).toArray := by unfold strV wordsP; rw [List.map_map]; rfl
  rw [e1, e2]
  exact ⟨h1, h2⟩
theorem str_cell {w : World} {g : Nat} {t : TypeId} {L : List ByteArray} (h : Blk w g t (strV L)) (k : Nat) (hk : k < L.length) : w.cell? ⟨g, k, none⟩ = some (.string L[k]) := by
  rw [h.cell k]
  unfold strV
  simp [List.getElem?_eq_getElem hk]
/-- Is a text among others? -/
def hasB (L : List ByteArray) (id : ByteArray) : Bool := L.any fun x => id.toList == x.toList
set_option maxRecDepth 100000 in
set_option maxHeartbeats 2000000 in
theorem contains_any (g : Nat) (L : List ByteArray) (hL : L.length ≤ 1000) (id : ByteArray) (w : World) (hb : Blk w g 9 (strV L)) :
    Calls Tryd.prog 63 #[.slice (some ⟨g, 0, none⟩) L.length L.length, .string id] w fun e w' => e = .returned (.bool (hasB L id)) ∧ w = w' := by
  have HB := Lib.hid hb
  clear hb
  have HI : Hid (Calls Tryd.prog 68 #[.slice (some ⟨g, 0, none⟩) L.length L.length, .string id] w fun e w' => (∃ z : Int, e = .returned (.int .i64 z) ∧ decide (0 ≤ z) = hasB L id) ∧ w = w') := Lib.hid (by
    go_enter Tryd.func68, Tryd.ntmps68
    go_wp2_with fail
    go_loopw [8] (fun i wr => ∃ k : Nat, k ≤ L.length ∧ i = .int .i64 k ∧ wr = w ∧ hasB (L.take k) id = false) (fun i _ => L.length - (intOf i).toNat)
    case atStart => exact ⟨0, by omega, rfl, rfl, rfl⟩
    case round =>
      obtain ⟨k, hk, rfl, rfl, hno⟩ := hrel
      have HNo := Lib.hid hno
      clear hno
      by_cases hlt : k < L.length
      · have hc := str_cell HB.out k hlt
        have HT : Hid (hasB (L.take (k + 1)) id = (hasB (L.take k) id || (id.toList == L[k].toList))) := Lib.hid (by unfold hasB; rw [take_snoc L k hlt, List.any_append]; simp)
        have HM : Hid ((id.toList == L[k].toList) = true → hasB L id = true) := Lib.hid (fun h => List.any_eq_true.2 ⟨_, List.getElem_mem hlt, h⟩)
        have hw : IntKind.i64.wrap ((k : Int) + 1) = (k : Int) + 1 := IntWalk.i64_in _ (by omega)
        generalize L[k] = x at *
        rcases hx : (id.toList == x.toList) with _ | _
        · rw [hx, HNo.out] at HT
          clear HM
          go_wp2_with fail
          go_roundw
          case rel => exact ⟨k + 1, by omega, by first | rfl | go_num, by first | rfl | trivial, HT.out⟩
          case measure => simp [intOf]; omega
        · have hd := HM.out hx
          have HD := Lib.hid hd
          clear hd HT
          go_wp2_with fail
          go_ret
          exact ⟨⟨_, rfl, by rw [HD.out]; simp⟩, by first | rfl | trivial⟩
      · obtain rfl : k = L.length := by omega
        have hd : hasB L id = false := by have := HNo.out; rwa [List.take_length] at this
        have HD := Lib.hid hd
        clear hd
        go_wp2_with fail
        go_ret
        exact ⟨⟨_, rfl, by rw [HD.out]; simp⟩, by first | rfl | trivial⟩)
  generalize hasB L id = b at *
  go_enter Tryd.func63, Tryd.ntmps63
  go_wp2_with fail
  refine HI.out.mono ?_
  rintro e w1 ⟨⟨z, rfl, hz⟩, rfl⟩
  go_wp2_with fail
  go_ret
  exact ⟨rfl, rfl⟩
end Go.Proofs.YtandfpghjbbalaaDoor

/-
  Hexadecimal digits read back, by the program.
  Hexadecimal digits by the document: one digit's number, and all of them read back.
  Bytes as hexadecimal digits, by the program and by the document.
-/
import Derived.Test.YtigaaidacndeiaaGreatDoorHexB
import Derived.Test.YtigaaidacndeiaaGreatDoorTokI
import Derived.Test.YtigaaidacndeiaaGreatDoorRepH
import Derived.Test.YtigaaidacndeiaaGreatDoorTokY
namespace Go.Proofs.YtigaaidacndeiaaGreatDoor

open Go Go.RowKit

/-- What all digits of a text say. -/
def fhL : List Nat → Option (List Nat)
  | [] => some []
  | [_] => none
  | a :: b :: l => if hvN a < 16 ∧ hvN b < 16 then (fhL l).map (fun m => (16 * hvN a + hvN b) :: m) else none
def fhV (o : Option (List Nat)) : Value := match o with
  | some l => .tuple #[.string (bstr l), .int .i64 0]
  | none => .tuple #[.string ⟨#[]⟩, .int .i64 3]
def szV (v : Value) : Nat := match v with
  | .string u => u.size
  | _ => 0
theorem natB_len (u : ByteArray) : (natL u.data.toList).length = u.size := by
  unfold natL
  rw [List.length_map, Array.length_toList]; rfl
theorem two_of (u : ByteArray) (h : 2 ≤ u.size) : natL u.data.toList = (u.data.toList.getD 0 0).toNat :: (u.data.toList.getD 1 0).toNat :: natL (u.extract 2 u.size).data.toList := by
  have e : (u.extract 2 u.size).data.toList = u.data.toList.drop 2 := by
    rw [ByteArray.data_extract, Array.toList_extract, List.extract_eq_take_drop, List.take_of_length_le]
    rw [List.length_drop, Array.length_toList]
    exact Nat.le_refl _
  rw [e]
  have hl : 2 ≤ u.data.toList.length := by rw [Array.length_toList]; exact h
  revert hl
  generalize u.data.toList = l
  intro hl
  match l, hl with
  | a :: b :: r, _ => rfl
theorem two_ext (u : ByteArray) (h : 2 ≤ u.size) : (u.extract 0 2).size = 2 ∧ (u.extract 0 2).data.toList.getD 0 0 = u.data.toList.getD 0 0 ∧ (u.extract 0 2).data.toList.getD 1 0 = u.data.toList.getD 1 0 := by
  have e : (u.extract 0 2).data.toList = u.data.toList.take 2 := by
    rw [ByteArray.data_extract, Array.toList_extract, List.extract_eq_take_drop]; rfl
  refine ⟨by rw [ByteArray.size_extract]; omega, ?_, ?_⟩
  all_goals
    rw [e]
    have hl : 2 ≤ u.data.toList.length := by rw [Array.length_toList]; exact h
    revert hl
    generalize u.data.toList = l
    intro hl
    match l, hl with
    | a :: b :: r, _ => rfl

end Go.Proofs.YtigaaidacndeiaaGreatDoor

namespace Go.Proofs.YtigaaidacndeiaaGreatDoor

open Go Go.RowKit

/-- A digit's number; -1: it is none. -/
def valI (c : Nat) : Int := if hvN c < 16 then (hvN c : Int) else -1
theorem val_key : ∀ c : Nat, c < 256 → ∀ k : Nat, k < 16 → ((hdN k == c) || (decide (9 < k) && (hdN k + 32 == c))) = (hvN c == k) := by decide +kernel
theorem hd_le : ∀ k : Nat, k < 16 → hdN k ≤ 70 := by decide +kernel

def fhW (o : Option (List Nat)) : Value := match o with
  | some l => .tuple #[.string (bstr l), .bool true]
  | none => .tuple #[.string ⟨#[]⟩, .bool false]
theorem drop_two (u : ByteArray) (i : Nat) (h : i + 1 < u.size) : (natL u.data.toList).drop i = (u[i]).toNat :: (u[i + 1]).toNat :: (natL u.data.toList).drop (i + 2) := by
  have hl : (natL u.data.toList).length = u.size := natB_len u
  rw [List.drop_eq_getElem_cons (by omega), List.drop_eq_getElem_cons (by omega)]
  congr 1
  · simp [natL]; rfl
  · congr 1
    simp [natL]; rfl
theorem drop_one (u : ByteArray) (i : Nat) (h : i + 1 = u.size) : fhL ((natL u.data.toList).drop i) = none := by
  have hl : ((natL u.data.toList).drop i).length = 1 := by rw [List.length_drop, natB_len]; omega
  revert hl
  generalize (natL u.data.toList).drop i = l
  intro hl
  match l, hl with
  | [a], _ => rfl

end Go.Proofs.YtigaaidacndeiaaGreatDoor

namespace Go.Proofs.YtigaaidacndeiaaGreatDoor

open Go Go.RowKit

theorem nat_lt (l : List UInt8) : ∀ x ∈ natL l, x < 256 := by
  intro x hx
  unfold natL at hx
  obtain ⟨c, _, rfl⟩ := List.mem_map.1 hx
  exact UInt8.toNat_lt c
theorem bstr_back (s : ByteArray) : bstr (natL s.data.toList) = s := by
  apply ByteArray.ext
  apply Array.ext'
  rw [bstr_list]
  unfold natL
  rw [List.map_map]
  conv => rhs; rw [← List.map_id s.data.toList]
  apply List.map_congr_left
  intro c _
  simp
theorem hv_hd : ∀ n : Nat, n < 16 → hvN (hdN n) = n := by decide +kernel
theorem hd_lt : ∀ n : Nat, n < 16 → hdN n < 256 := by decide +kernel
theorem fh_hex (l : List Nat) (h : ∀ x ∈ l, x < 256) : fhL (hexL l) = some l := by
  induction l with
  | nil => rfl
  | cons a l ih =>
    have ha := h a (by simp)
    show fhL (hdN (a / 16) :: hdN (a % 16) :: hexL l) = _
    have e : fhL (hdN (a / 16) :: hdN (a % 16) :: hexL l) = if hvN (hdN (a / 16)) < 16 ∧ hvN (hdN (a % 16)) < 16 then (fhL (hexL l)).map (fun m => (16 * hvN (hdN (a / 16)) + hvN (hdN (a % 16))) :: m) else none := rfl
    rw [e, hv_hd _ (by omega), hv_hd _ (by omega), if_pos ⟨by omega, by omega⟩, ih (fun x hx => h x (by simp [hx]))]
    simp
    omega
theorem hex_lt (l : List Nat) (h : ∀ x ∈ l, x < 256) : ∀ x ∈ hexL l, x < 256 := by
  intro x hx
  unfold hexL at hx
  obtain ⟨a, ha, hx⟩ := List.mem_flatMap.1 hx
  have := h a ha
  simp at hx
  rcases hx with rfl | rfl
  · exact hd_lt _ (by omega)
  · exact hd_lt _ (by omega)
theorem nat_bstr (l : List Nat) (h : ∀ x ∈ l, x < 256) : natL (bstr l).data.toList = l := by
  rw [bstr_list]
  unfold natL
  rw [List.map_map]
  conv => rhs; rw [← List.map_id l]
  apply List.map_congr_left
  intro c hc
  have := h c hc
  simp only [Function.comp_apply, id_eq]
  exact UInt8.toNat_ofNat_of_lt (by exact this)


end Go.Proofs.YtigaaidacndeiaaGreatDoor

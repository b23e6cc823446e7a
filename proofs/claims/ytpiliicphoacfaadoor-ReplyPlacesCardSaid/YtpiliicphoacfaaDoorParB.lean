/-
  The walks of what collects numbers byte by byte: a digit, a semicolon, any byte.
-/
import Derived.Test.YtpiliicphoacfaaDoorParA
import Derived.Test.YtpiliicphoacfaaDoorSame
import Derived.RegionTactic
namespace Go.Proofs.YtpiliicphoacfaaDoor

open Go.RowKit

/-- The fields that have begun, at most thirty and one more. -/
def padF (fs : List Int) : List Int := fs.take 30 ++ List.replicate (30 - fs.length) 0
def accCells (fs : List Int) : Array Value := ((padF fs).map (Value.int .i64) ++ [Value.int .i64 (min fs.length 31 : Nat)]).toArray
theorem padF_len (fs : List Int) : (padF fs).length = 30 := by unfold padF; simp; omega
theorem acc_begun (fs : List Int) : (accCells fs)[30]? = some (.int .i64 (min fs.length 31 : Nat)) := by
  unfold accCells
  rw [List.getElem?_toArray, List.getElem?_append_right (by simp [padF_len]), List.length_map, padF_len]
  rfl
theorem acc_at (fs : List Int) (k : Nat) (hk : k < 30) : (accCells fs)[k]? = (padF fs)[k]?.map (Value.int .i64) := by
  unfold accCells
  rw [List.getElem?_toArray, List.getElem?_append_left (by simp [padF_len, hk]), List.getElem?_map]
/-- Where a box keeps what was taken. -/
def Acc (w : World) (g : Nat) (fs : List Int) : Prop := Blk w g 36 (accCells fs)
theorem Acc.begun {w : World} {g : Nat} {fs : List Int} (h : Acc w g fs) : w.cell? ⟨g, 30, none⟩ = some (.int .i64 (min fs.length 31 : Nat)) := (h.cell 30).trans (acc_begun fs)
/-- The array's cells, as a list. -/
theorem acc_list (fs : List Int) : accCells fs = ((padF fs ++ [((min fs.length 31 : Nat) : Int)]).map (Value.int .i64)).toArray := by unfold accCells; simp
theorem set_list (l : List Int) (k : Nat) (n : Int) : ((l.map (Value.int .i64)).toArray).setIfInBounds k (.int .i64 n) = ((l.set k n).map (Value.int .i64)).toArray := by simp [List.map_set]

theorem acc_first_digit (d : Int) : ((padF [] ++ [((0 : Nat) : Int)]).set 30 1).set 0 d = padF [d] ++ [((1 : Nat) : Int)] := by
  simp [padF, List.replicate]
theorem acc_digit (gs : List Int) (x d : Int) (h : gs.length < 30) : ((padF (gs ++ [x]) ++ [((min (gs ++ [x]).length 31 : Nat) : Int)]).set 30 ((gs.length + 1 : Nat) : Int)).set gs.length d = padF (gs ++ [d]) ++ [((min (gs ++ [d]).length 31 : Nat) : Int)] := by
  have e : ∀ y : Int, padF (gs ++ [y]) = gs ++ y :: List.replicate (29 - gs.length) 0 := by
    intro y
    unfold padF
    rw [List.take_of_length_le (by simp <;> omega), show 30 - (gs ++ [y]).length = 29 - gs.length from by simp <;> omega]
    simp
  have hm : ∀ y : Int, min (gs ++ [y]).length 31 = gs.length + 1 := by intro y; simp; omega
  rw [e, e, hm, hm]
  have h30 : (gs ++ x :: List.replicate (29 - gs.length) 0).length = 30 := by simp <;> omega
  rw [List.set_append_right _ _ (by omega), h30]
  simp only [Nat.sub_self, List.set_cons_zero]
  rw [List.set_append_left _ _ (by omega)]
  simp
theorem padF_long (fs : List Int) (h : 30 ≤ fs.length) : padF fs = fs.take 30 := by unfold padF; rw [show 30 - fs.length = 0 from by omega]; simp
/-- A semicolon begins one more. -/
theorem acc_semi (fs : List Int) : (padF fs ++ [((min fs.length 31 : Nat) : Int)]).set 30 ((min (fs.length + 1) 31 : Nat) : Int) = padF (fs ++ [0]) ++ [((min (fs ++ [(0 : Int)]).length 31 : Nat) : Int)] := by
  have e : padF (fs ++ [0]) = padF fs := by
    unfold padF
    by_cases h : fs.length < 30
    · rw [List.take_of_length_le (by simp <;> omega), List.take_of_length_le (by omega), show 30 - fs.length = (30 - (fs ++ [(0 : Int)]).length) + 1 from by simp <;> omega, List.replicate_succ]
      simp
    · rw [List.take_append_of_le_length (by omega), show 30 - fs.length = 0 from by omega, show 30 - (fs ++ [(0 : Int)]).length = 0 from by simp <;> omega]
  rw [List.set_append_right _ _ (by rw [padF_len]; omega), padF_len, e]
  simp
theorem acc_semi_nil : (padF [] ++ [((0 : Nat) : Int)]).set 30 2 = padF [0, 0] ++ [((2 : Nat) : Int)] := by simp [padF, List.replicate]
/-- A digit behind the thirtieth number is forgotten. -/
theorem acc_late (gs : List Int) (x d : Int) (h : 30 ≤ gs.length) : padF (gs ++ [x]) ++ [((min (gs ++ [x]).length 31 : Nat) : Int)] = padF (gs ++ [d]) ++ [((min (gs ++ [d]).length 31 : Nat) : Int)] := by
  rw [padF_long _ (by simp <;> omega), padF_long _ (by simp <;> omega), List.take_append_of_le_length h, List.take_append_of_le_length h]
  simp
end Go.Proofs.YtpiliicphoacfaaDoor

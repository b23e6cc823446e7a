/-
  The set that the program finds of an id is the one that the reference finds. Plain facts.
-/
import Derived.Test.YtfnamfkjbkhgeaaGreatDoorChsO
namespace Go.Proofs.YtfnamfkjbkhgeaaGreatDoor

open Go Go.RowKit

def metL (wide : Bool) (l : List UInt8) (k : Nat) : Bool := (wideP k == wide) && (wordsP k).any fun x => l == x.data.toList
def fitL (wide : Bool) (l : List UInt8) (k : Nat) : Bool := (wideP k == wide) && ((cIdP k).data.toList == l)
def otherL (l : List UInt8) : Nat := if (l == [67]) = true then 8 else if (l == [102]) = true then 9 else if (l == [81]) = true then 10 else if (l == [69]) = true then 13 else if (l == [54]) = true then 13 else if (l == [72]) = true then 16 else if (l == [50]) = true then 2 else 0
def rfnL (wide : Bool) (l : List UInt8) : Nat := if fndP (fitL wide l) = 0 then (if wide = true then 0 else otherL l) else fndP (fitL wide l)
theorem met_eq (wide : Bool) (id : ByteArray) : metP wide id = metL wide id.data.toList := by
  funext k
  unfold metP metL hasB
  simp only [ByteArray.toList_eq]
theorem rfn_eq (wide : Bool) (id : ByteArray) : rfnP wide id = rfnL wide id.data.toList := by
  have e : fitP wide id = fitL wide id.data.toList := by
    funext k
    unfold fitP fitL
    simp only [ByteArray.toList_eq]
  have o : otherP id = otherL id.data.toList := by
    unfold otherP otherL
    simp only [ByteArray.toList_eq]
  unfold rfnP rfnL
  rw [e, o]
def allW : List (List UInt8) := (List.range 18).flatMap fun k => (wordsP k).map fun x => x.data.toList
theorem all_same : (allW.all fun l => (fndP (metL true l) == rfnL true l) && (fndP (metL false l) == rfnL false l)) = true := by decide +kernel
theorem ids_all : ((List.range 18).all fun k => decide (k = 0) || allW.contains (cIdP k).data.toList) = true := by decide +kernel
theorem oth_all : ([[67], [102], [81], [69], [54], [72], [50]].all fun l => allW.contains l) = true := by decide +kernel
theorem find_same (wide : Bool) (id : ByteArray) : fndP (metP wide id) = rfnP wide id := by
  rw [met_eq, rfn_eq]
  generalize id.data.toList = l
  by_cases h : l ∈ allW
  · have h1 := List.all_eq_true.1 all_same l h
    rw [Bool.and_eq_true] at h1
    cases wide with
    | true => simpa using h1.1
    | false => simpa using h1.2
  · have hm : ∀ j, 1 ≤ j → j ≤ 17 → metL wide l j = false := by
      intro j h1 h2
      rcases hf : metL wide l j with _ | _
      · rfl
      · exfalso
        unfold metL at hf
        rw [Bool.and_eq_true] at hf
        obtain ⟨x, hx, e⟩ := List.any_eq_true.1 hf.2
        apply h
        unfold allW
        rw [List.mem_flatMap]
        exact ⟨j, by simp; omega, List.mem_map.2 ⟨x, hx, by simpa using (beq_iff_eq.1 e).symm⟩⟩
    have hi : ∀ j, 1 ≤ j → j ≤ 17 → fitL wide l j = false := by
      intro j h1 h2
      rcases hf : fitL wide l j with _ | _
      · rfl
      · exfalso
        unfold fitL at hf
        rw [Bool.and_eq_true] at hf
        have e := beq_iff_eq.1 hf.2
        have h3 := List.all_eq_true.1 ids_all j (by simp; omega)
        rw [e] at h3
        have h0 : decide (j = 0) = false := by simp; omega
        rw [h0] at h3
        apply h
        simpa using h3
    have ho : ∀ m ∈ ([[67], [102], [81], [69], [54], [72], [50]] : List (List UInt8)), (l == m) = false := by
      intro m hm2
      rw [beq_eq_false_iff_ne]
      rintro rfl
      apply h
      simpa using List.all_eq_true.1 oth_all l hm2
    rw [fnd_none _ hm]
    unfold rfnL
    rw [fnd_none _ hi, if_pos rfl]
    cases wide with
    | true => rfl
    | false =>
      rw [if_neg (by simp)]
      unfold otherL
      rw [ho [67] (by simp), ho [102] (by simp), ho [81] (by simp), ho [69] (by simp), ho [54] (by simp), ho [72] (by simp), ho [50] (by simp)]
      rfl
theorem fnd_cases (f : Nat → Bool) : fndP f = 0 ∨ (1 ≤ fndP f ∧ fndP f ≤ 17 ∧ f (fndP f) = true) := by
  unfold fndP
  rcases h : (List.range' 1 17).find? f with _ | n
  · exact .inl rfl
  · have h1 := List.find?_some h
    have h2 := List.mem_of_find?_eq_some h
    rw [List.mem_range'_1] at h2
    exact .inr ⟨h2.1, by show n ≤ 17; omega, h1⟩
theorem id_finds : ((List.range 18).all fun k => fndP (metL (wideP k) (cIdP k).data.toList) == k) = true := by decide +kernel
theorem id_back (k : Nat) (hk : k < 18) : fndP (metP (wideP k) (cIdP k)) = k := by
  rw [met_eq]
  simpa using List.all_eq_true.1 id_finds k (by simpa using hk)
end Go.Proofs.YtfnamfkjbkhgeaaGreatDoor

/-
  Rows that are cut and copied; the fixed fact that each statement on cells asks first.
-/
import Derived.Test.YtgndjonalhdhkaaDoorCellD
namespace Go.Proofs.YtgndjonalhdhkaaDoor

open Go.RowKit

set_option maxHeartbeats 1000000 in
theorem cut_any (A : Option Addr) (c : Nat) (l : List Cl) (_ : l.length ≤ maxLen) (hc : l.length ≤ c) (n : Nat) (hn : n ≤ 100000) (w : World) :
    Calls Tryd.prog 6 #[.slice A l.length c, .int .i64 n] w fun e w' => e = .returned (.slice A (l.take n).length c) ∧ Below w.heap.size w w' := by
  by_cases h : n < l.length
  · have hlen : (l.take n).length = n := by rw [List.length_take]; omega
    rw [hlen]
    have hgt : decide ((n : Int) < l.length) = true := by simp; omega
    generalize l.length = m at *
    go_enter Tryd.func6, Tryd.ntmps6
    go_wp2
    go_ret
    exact ⟨rfl, Below.refl _ _⟩
  · have hlen : l.take n = l := List.take_of_length_le (by omega)
    rw [hlen]
    generalize l.length = m at *
    go_enter Tryd.func6, Tryd.ntmps6
    go_wp2
    go_ret
    exact ⟨rfl, Below.refl _ _⟩

set_option maxHeartbeats 1000000 in
theorem awake2_any (w : World) (ht : Tab w) : Calls Tryd.prog 5 #[] w fun e w' => e = .returned (.bool true) ∧ Below w.heap.size w w' := by
  have HW := Lib.hid (cellWeight_any 65 1 true (by omega))
  rw [show Cl.w ⟨65, 1, true⟩ = 197 from by decide +kernel] at HW
  have HE := Lib.hid (fun W => eql_cells W ⟨32, 0, false⟩ ⟨32, 0, false⟩)
  have HG := Lib.hid (fun W p q => guard_cells .eql W p q ⟨32, 0, false⟩ ⟨32, 0, false⟩)
  go_enter Tryd.func5, Tryd.ntmps5
  go_wp2_with fail
  refine (erased_any _).mono ?_
  rintro e w1 ⟨rfl, hb⟩
  go_wp2_with fail
  refine (refErased_any _).mono ?_
  rintro e w2 ⟨rfl, hb'⟩
  replace hb := hb.trans (hb'.mono hb.size); clear hb'
  have he := HE.out w2
  have hg := HG.out w2
  go_wp2_with fail
  refine (HW.out _ (ht.next hb)).mono ?_
  rintro e w3 ⟨rfl, hb'⟩
  replace hb := hb.trans (hb'.mono hb.size); clear hb'
  go_wp2_with fail
  go_ret
  exact ⟨rfl, hb⟩
end Go.Proofs.YtgndjonalhdhkaaDoor

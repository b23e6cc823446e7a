/-
  The walk of the fact that the laws of stops begin with.
-/
import Derived.Test.YtnfdgioapbkonaaDoorTabM
import Derived.Test.YtnfdgioapbkonaaDoorSame
namespace Go.Proofs.YtnfdgioapbkonaaDoor

open Go Go.RowKit

theorem less_one : Less 1 := fun j h1 h2 => by
  obtain rfl : j = 1 := by omega
  rfl
theorem OInts.rints {w : World} {base : Nat} {v : Value} {ns : List Int} (h : OInts w base v ns) : ∃ A c, v = .slice A ns.length c ∧ RInts w A ns := by
  obtain ⟨A, c, rfl⟩ := OInts.form h
  exact ⟨A, c, rfl, OInts.reads h⟩
set_option maxRecDepth 100000 in
set_option maxHeartbeats 4000000 in
theorem awake_any (w : World) : Calls Tryd.prog 5 #[] w fun e w' => e = .returned (.bool true) ∧ Below w.heap.size w w' := by
  have HNew := Lib.hid (fun W => new_any 20 W)
  rw [show colsT 20 = 20 from rfl] at HNew
  have HCo := Lib.hid (fun B W s => cols_any B 20 (newH 20) W s)
  have HLi := Lib.hid (fun B W s => list_any B 20 (newH 20) W s)
  rw [show lstP (newH 20) 20 = [8, 16] from by decide] at HLi
  have HNx := Lib.hid (fun B W s => next_any B 20 (newH 20) 16 1 less_one W s)
  rw [show nextP (newH 20) 20 16 1 = 19 from by decide] at HNx
  have HBa := Lib.hid (fun B W s => back_any B 20 (newH 20) 16 1 less_one W s)
  rw [show backP (newH 20) 20 16 1 = 8 from by decide] at HBa
  have HSa := Lib.hid (fun A B c d W h h' => sameInts_any A B c d [8, 16] [8, 16] (by decide) (by decide) W h h')
  rw [show (([8, 16] : List Int) == [8, 16]) = true from rfl, show ([8, 16] : List Int).length = 2 from rfl] at HSa
  go_enter Tryd.func5, Tryd.ntmps5
  go_wp2_with fail
  refine (HNew.out _).mono ?_
  rintro e w1 ⟨rfl, hs1, hb1⟩
  have HS1 := Lib.hid hs1; have HB1 := Lib.hid hb1
  clear hs1 hb1
  go_wp2_with fail
  refine (HCo.out _ _ HS1.out).mono ?_
  rintro e w2 ⟨rfl, hb2⟩
  have HS2 := Lib.hid (HS1.out.next hb2); have HB2 := Lib.hid (HB1.out.trans (hb2.mono HB1.out.size))
  clear hb2
  go_wp2_with fail
  refine (HLi.out _ _ HS2.out).mono ?_
  rintro e w3 ⟨v, rfl, ho, hb3⟩
  have HS3 := Lib.hid (HS2.out.next hb3); have HB3 := Lib.hid (HB2.out.trans (hb3.mono HB2.out.size))
  obtain ⟨A, c, rfl, hr⟩ := OInts.rints ho
  have HR := Lib.hid hr
  clear ho hb3 hr
  rw [show ([8, 16] : List Int).length = 2 from rfl]
  go_wp2_with fail
  have hb4 := al w3 (.cells #[.int .i64 8, .int .i64 16] 3)
  refine (HSa.out A _ c _ _ (HR.out.next hb4) (rints_new w3 3 [8, 16] #[.int .i64 8, .int .i64 16] rfl _ rfl)).mono ?_
  rintro e w5 ⟨rfl, hb5⟩
  have HS5 := Lib.hid ((HS3.out.next hb4).next hb5); have HB5 := Lib.hid ((HB3.out.trans (hb4.mono HB3.out.size)).trans (hb5.mono (Nat.le_trans HB3.out.size hb4.size)))
  clear hb4 hb5
  go_wp2_with fail
  refine (HNx.out _ _ HS5.out).mono ?_
  rintro e w6 ⟨rfl, hb6⟩
  have HS6 := Lib.hid (HS5.out.next hb6); have HB6 := Lib.hid (HB5.out.trans (hb6.mono HB5.out.size))
  clear hb6
  go_wp2_with fail
  refine (HBa.out _ _ HS6.out).mono ?_
  rintro e w7 ⟨rfl, hb7⟩
  have HB7 := Lib.hid (HB6.out.trans (hb7.mono HB6.out.size))
  clear hb7
  go_wp2_with fail
  go_ret
  exact ⟨rfl, HB7.out⟩


end Go.Proofs.YtnfdgioapbkonaaDoor

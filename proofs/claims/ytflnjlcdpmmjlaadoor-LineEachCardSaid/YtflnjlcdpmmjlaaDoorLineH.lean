/-
  The walks that hold two lines against each other.
-/
import Derived.Test.YtflnjlcdpmmjlaaDoorLineG
namespace Go.Proofs.YtflnjlcdpmmjlaaDoor

open Go.RowKit



set_option maxRecDepth 100000 in
set_option maxHeartbeats 1600000 in
theorem refSame_any (A B : Option Addr) (c d : Nat) (l m : List Cl) (s t : Int) (hl : l.length ≤ maxLen) (hm : m.length ≤ maxLen) (w : World) (hr : RCells w A l) (hs : RCells w B m) :
    Calls Tryd.prog 14 #[lineV A l.length c s, lineV B m.length d t] w fun e w' => e = .returned (.bool (decide (s = t ∧ l = m))) ∧ Below w.heap.size w w' := by
  have HC := Lib.hid (fun W h h' => sameCells_any A B c d l m hl hm W h h')
  have HR := Lib.hid hr; have HS := Lib.hid hs
  clear hr hs
  have HP : Hid (decide (s = t ∧ l = m) = (decide (s = t) && decide (l = m))) := Lib.hid (by simp)
  rw [HP.out]
  clear HP
  generalize decide (l = m) = r at *
  unfold lineV
  generalize l.length = n at *
  generalize m.length = k at *
  have HK := Lib.hid (KL.start w #[.slice A n c, .int .i64 s] #[.slice B k d, .int .i64 t])
  obtain ⟨c0, c1, c2, c3, _, _⟩ := KL.cells HK.out
  by_cases h : s = t
  · subst h
    go_enter Tryd.func14, Tryd.ntmps14
    go_wp2_with fail
    refine (HC.out _ (HR.out.next HK.out.2.2) (HS.out.next HK.out.2.2)).mono ?_
    rintro e w1 ⟨rfl, hb1⟩
    have HB1 := Lib.hid (KL.next HK.out hb1)
    clear hb1
    go_wp2_with fail
    go_ret
    exact ⟨ret_bool (by simp), HB1.out.2.2⟩
  · have h1 : (s == t) = false := by simpa using h
    have h2 : decide (s = t) = false := by simpa using h
    rw [h2]
    clear h h2
    go_enter Tryd.func14, Tryd.ntmps14
    go_wp2_with fail
    go_ret
    exact ⟨ret_bool (by simp), HK.out.2.2⟩
end Go.Proofs.YtflnjlcdpmmjlaaDoor

/-
  Boxes: a list of numbers from a place on.
-/
import Derived.Test.YtdddpdfljjfaoaaBoxC
import Derived.Test.YtdddpdfljjfaoaaBoxD
namespace Go.Proofs.Ytdddpdfljjfaoaa
open Go Go.RowKit

def dropP (l : List Int) (i : Int) : List Int := if i < 0 ∨ (l.length : Int) < i then [] else l.drop i.toNat
theorem rints_drop {w : World} {ad : Addr} {l : List Int} (h : RInts w (some ad) l) (k : Nat) : RInts w (some (ad.add k)) (l.drop k) := by
  refine ⟨by simp, fun hn => ?_⟩
  rw [List.length_drop] at hn
  obtain ⟨ad', e, hb, hc⟩ := h.2 (by omega)
  injection e with e
  subst e
  refine ⟨_, rfl, by rw [block_of_add]; exact hb, fun j u hu => ?_⟩
  rw [add_of_add]
  refine hc (k + j) u ?_
  rw [← hu, List.map_drop, List.getElem?_drop]
theorem rints_none (w : World) (A : Option Addr) : RInts w A [] := ⟨rfl, fun h => absurd h (by simp)⟩
/-- A slice that reads as just these numbers is answered, and nothing has turned. -/
def SlPost (A : Option Addr) (ns l : List Int) (w : World) (e : Ending) (w' : World) : Prop := ∃ A' c', e = .returned (.slice A' l.length c') ∧ (∀ W, RInts W A ns → RInts W A' l) ∧ w = w'
set_option maxHeartbeats 2000000 in
theorem numbersFrom_any (A : Option Addr) (c : Nat) (l : List Int) (_hm : l.length ≤ 17592186043904) (hc : l.length ≤ c) (i : Int) (w : World) :
    Calls Try.prog 39 #[.slice A l.length c, .int .i64 i] w (SlPost A l (dropP l i) w) := by
  by_cases h0 : i < 0
  · rw [show dropP l i = [] from if_pos (.inl h0)]
    go_enter Try.func39, Try.ntmps39
    go_wp2_with fail
    go_ret
    exact ⟨none, 0, rfl, fun _ _ => rints_none _ _, rfl⟩
  · have hd : decide (i < 0) = false := by simp; omega
    by_cases h1 : (l.length : Int) < i
    · rw [show dropP l i = [] from if_pos (.inr h1)]
      go_enter Try.func39, Try.ntmps39
      go_wp2_with fail
      go_ret
      exact ⟨none, 0, rfl, fun _ _ => rints_none _ _, rfl⟩
    · rw [show dropP l i = l.drop i.toNat from if_neg (by omega)]
      obtain ⟨k, rfl⟩ := Int.eq_ofNat_of_zero_le (by omega : 0 ≤ i)
      have hk : k ≤ l.length := by omega
      have hg : decide (k > l.length) = false := by simp; omega
      have HL : Hid ((l.drop k).length = l.length - k) := Lib.hid (by simp)
      have HD := Lib.hid (fun W (h : RInts W A l) ad (e : A = some ad) => rints_drop (by rw [← e]; exact h) k)
      simp only [Int.toNat_natCast]
      generalize hll : l.drop k = ll at *
      go_enter Try.func39, Try.ntmps39
      go_wp2_with fail
      · skip
        go_ret
        have e0 : ll = [] := by rw [← hll]; exact List.drop_eq_nil_of_le (by omega)
        subst e0
        exact ⟨A, 0, by rw [HL.out]; rfl, fun _ _ => rints_none _ _, rfl⟩
      · go_ret
        refine ⟨A.map (fun x => x.add k), c - k, by rw [HL.out]; rfl, fun W hW => ?_, rfl⟩
        cases A with
        | none =>
          have hl0 : l.length = 0 := by
            rcases Nat.eq_zero_or_pos l.length with h' | h'
            · exact h'
            · obtain ⟨ad, e, _⟩ := hW.2 h'
              cases e
          have e0 : ll = [] := by rw [← hll]; exact List.drop_eq_nil_of_le (by omega)
          subst e0
          exact rints_none _ _
        | some ad => exact HD.out W hW ad rfl
end Go.Proofs.Ytdddpdfljjfaoaa

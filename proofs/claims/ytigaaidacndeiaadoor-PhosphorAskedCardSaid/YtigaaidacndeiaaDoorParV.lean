/-
  The walk of the reference that reads a text of numbers piece by piece.
  The walk of the reference that reads a text of numbers: no bytes; a byte that may not be.
  Both ways of reading a text of numbers, whatever the text: one answer.
-/
import Derived.Test.YtigaaidacndeiaaDoorParG
namespace Go.Proofs.YtigaaidacndeiaaDoor

open Go.RowKit

theorem data_len (s : ByteArray) : s.data.toList.length = s.size := by show s.data.toList.length = s.data.size; simp
theorem data_at (s : ByteArray) (k : Nat) (hk : k < s.size) : s.data.toList[k]'(by rw [data_len]; exact hk) = s[k] := by simp; rfl

end Go.Proofs.YtigaaidacndeiaaDoor

namespace Go.Proofs.YtigaaidacndeiaaDoor

open Go.RowKit




end Go.Proofs.YtigaaidacndeiaaDoor

namespace Go.Proofs.YtigaaidacndeiaaDoor

open Go.RowKit

/-- The numbers and the error that a text gives. -/
def parseV (l : List UInt8) : List Int × Int := if l.all okb then (numsOf l, 0) else ([], 3)
theorem all_okb (l : List UInt8) : l.all okb = true ↔ OkB l := by unfold OkB; simp
theorem parseV_yes {l : List UInt8} (h : OkB l) : parseV l = (numsOf l, 0) := if_pos ((all_okb l).2 h)
theorem parseV_no {l : List UInt8} (h : ¬ OkB l) : parseV l = ([], 3) := if_neg (fun h' => h ((all_okb l).1 h'))
theorem parseV_range (l : List UInt8) : InF (parseV l).1 ∧ (parseV l).1.length ≤ 30 ∧ ((parseV l).2 = 0 ∨ (parseV l).2 = 3) := by
  by_cases h : OkB l
  · rw [parseV_yes h]; exact ⟨numsOf_range h, numsOf_len l, .inl rfl⟩
  · rw [parseV_no h]; exact ⟨fun n hn => by simp at hn, by simp, .inr rfl⟩
/-- What such a call answers, and that its list is memory of its own. -/
def Gave (w' : World) (base : Nat) (ns : List Int) (er : Int) (e : Ending) : Prop := ∃ A c, e = .returned (.tuple #[.slice A ns.length c, .int .i64 er]) ∧ OInts w' base (.slice A ns.length c) ns
theorem gave_of {w' : World} {base : Nat} {ns : List Int} {e : Ending} {v : Value} (he : e = .returned (.tuple #[v, .int .i64 0])) (h : OInts w' base v ns) : Gave w' base ns 0 e := by
  obtain ⟨A, c, rfl⟩ := OInts.form h
  exact ⟨A, c, he, h⟩
theorem gave_nil {w' : World} {base : Nat} {e : Ending} (he : e = .returned (.tuple #[.slice none 0 0, .int .i64 3])) : Gave w' base [] 3 e := ⟨none, 0, he, World.ownsRow_nil _ _ _ _⟩
theorem parse_all (s : ByteArray) (hs : s.size ≤ maxLen) (w : World) :
    Calls Tryd.prog 23 #[.string s] w fun e w' => Gave w' w.heap.size (parseV s.data.toList).1 (parseV s.data.toList).2 e ∧ Below w.heap.size w w' := by
  by_cases h : OkB s.data.toList
  · rw [parseV_yes h]
    exact (parse_yes s hs h w).mono fun e w' ⟨v, he, ho, hb⟩ => ⟨gave_of he ho, hb⟩
  · rw [parseV_no h]
    exact (parse_no s hs h w).mono fun e w' ⟨he, hb⟩ => ⟨gave_nil he, hb⟩

end Go.Proofs.YtigaaidacndeiaaDoor

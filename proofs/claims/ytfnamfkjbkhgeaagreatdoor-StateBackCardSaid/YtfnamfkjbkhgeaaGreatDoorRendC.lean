/-
  The walks of the reference of renditions: the five parts of one, and one of five parts; its weight.
-/
import Derived.Test.YtfnamfkjbkhgeaaGreatDoorKit
import Derived.Deep.DeepCutAuto
namespace Go.Proofs.YtfnamfkjbkhgeaaGreatDoor

open Go.RowKit

/-- The five parts as the program lays them. -/
def parts (x : Int) : Value := .agg #[.bool (fb x 0), .bool (fb x 1), .bool (fb x 2), .bool (fb x 3), .bool (fb x 4)]
/-- Some more, if so. -/
def some_ (b : Bool) (n : Int) : Int := if b then n else 0
/-- A number that has been added up: it lies within bounds, and what it is stands behind a name. -/
def Sum_ (n lo hi v : Int) : Prop := n = v ∧ lo ≤ n ∧ n ≤ hi
theorem sum_step {n hi v : Int} (h : Sum_ n 0 hi v) (b : Bool) (k : Int) (hk : 0 ≤ k) : Sum_ (n + some_ b k) 0 (hi + k) (v + some_ b k) := by
  obtain ⟨rfl, h1, h2⟩ := h
  unfold some_
  cases b
  · simp only [Bool.false_eq_true, if_false]; exact ⟨rfl, by omega, by omega⟩
  · simp only [if_true]; exact ⟨rfl, by omega, by omega⟩

set_option maxHeartbeats 400000 in
theorem of_any (x : Int) (h0 : 0 ≤ x) (h1 : x ≤ 255) (w : World) :
    Calls Tryz.prog 46 #[.int .u8 x] w fun e w' => e = .returned (parts x) ∧ Below w.heap.size w w' := by
  go_enter Tryz.func46, Tryz.ntmps46
  go_wp2
  go_returns
  exact ⟨by simp [parts, fb, pBit], (Below.refl _ _).alloc (Nat.le_refl _) _⟩

set_option maxHeartbeats 1000000 in
theorem rend_any (a b c d e' : Bool) (w : World) :
    Calls Tryz.prog 45 #[.agg #[.bool a, .bool b, .bool c, .bool d, .bool e']] w fun e w' => e = .returned (.int .u8 (rd a b c d e')) ∧ Below w.heap.size w w' := by
  go_enter Tryz.func45, Tryz.ntmps45
  go_upto_if 5 with fail
  go_cut [3] (fun s wx => ∃ n, s = .int .i64 n ∧ Sum_ n 0 (1) (some_ a 1) ∧ wx = w.alloc (.cells #[.bool a, .bool b, .bool c, .bool d, .bool e'] 100))
  case first => cases a <;> (go_wp2; go_meet; exact ⟨_, rfl, ⟨rfl, by decide, by decide⟩, rfl⟩)
  case rest =>
    obtain ⟨n1, rfl, H1, rfl⟩ := hcut
    go_upto_if 9 with fail
    go_cut [3] (fun s wx => ∃ n, s = .int .i64 n ∧ Sum_ n 0 (1 + 2) (some_ a 1 + some_ b 2) ∧ wx = w.alloc (.cells #[.bool a, .bool b, .bool c, .bool d, .bool e'] 100))
    case first =>
      obtain ⟨-, r1, r2⟩ := id H1
      have S := sum_step H1 b 2 (by decide)
      cases b <;> (go_wp2; go_meet; exact ⟨_, by simp [some_], S, rfl⟩)
    case rest =>
      obtain ⟨n2, rfl, H2, rfl⟩ := hcut
      go_upto_if 13 with fail
      go_cut [3] (fun s wx => ∃ n, s = .int .i64 n ∧ Sum_ n 0 (1 + 2 + 4) (some_ a 1 + some_ b 2 + some_ c 4) ∧ wx = w.alloc (.cells #[.bool a, .bool b, .bool c, .bool d, .bool e'] 100))
      case first =>
        obtain ⟨-, r1, r2⟩ := id H2
        have S := sum_step H2 c 4 (by decide)
        cases c <;> (go_wp2; go_meet; exact ⟨_, by simp [some_], S, rfl⟩)
      case rest =>
        obtain ⟨n3, rfl, H3, rfl⟩ := hcut
        go_upto_if 17 with fail
        go_cut [3] (fun s wx => ∃ n, s = .int .i64 n ∧ Sum_ n 0 (1 + 2 + 4 + 8) (some_ a 1 + some_ b 2 + some_ c 4 + some_ d 8) ∧ wx = w.alloc (.cells #[.bool a, .bool b, .bool c, .bool d, .bool e'] 100))
        case first =>
          obtain ⟨-, r1, r2⟩ := id H3
          have S := sum_step H3 d 8 (by decide)
          cases d <;> (go_wp2; go_meet; exact ⟨_, by simp [some_], S, rfl⟩)
        case rest =>
          obtain ⟨n4, rfl, H4, rfl⟩ := hcut
          go_upto_if 21 with fail
          go_cut [3] (fun s wx => ∃ n, s = .int .i64 n ∧ Sum_ n 0 (1 + 2 + 4 + 8 + 16) (some_ a 1 + some_ b 2 + some_ c 4 + some_ d 8 + some_ e' 16) ∧ wx = w.alloc (.cells #[.bool a, .bool b, .bool c, .bool d, .bool e'] 100))
          case first =>
            obtain ⟨-, r1, r2⟩ := id H4
            have S := sum_step H4 e' 16 (by decide)
            cases e' <;> (go_wp2; go_meet; exact ⟨_, by simp [some_], S, rfl⟩)
          case rest =>
            obtain ⟨n5, rfl, H5, rfl⟩ := hcut
            obtain ⟨e5, r1, r2⟩ := id H5
            have E5 := Lib.hid e5
            clear e5
            go_wp2
            go_ret
            exact ⟨ret_int (by rw [E5.out]; rfl), (Below.refl _ _).alloc (Nat.le_refl _) _⟩

def wtOf (a b c d e' : Bool) : Int := some_ a 128 + some_ c 64 + some_ d 32 + some_ b 16 + some_ e' 8
theorem wt_of (x : Int) : wt x = wtOf (fb x 0) (fb x 1) (fb x 2) (fb x 3) (fb x 4) := wt_eq x

end Go.Proofs.YtfnamfkjbkhgeaaGreatDoor

/-
  Two hexadecimal digits, read by the library.
  The library's reading of two digits, with its error; and of all digits of a text.
-/
import Derived.Test.YtigaaidacndeiaaGreatDoorGen
import Derived.Test.YtigaaidacndeiaaGreatDoorKit2
import Derived.Lib.Strings
import Derived.Lib.ConvBytes
import Derived.Lib.ParseIntBMem
import Derived.Lib.Hide
import Derived.Laws.Strings3
import Derived.Laws.Closers25
import Derived.Laws.Closers25b
import Derived.WalkKit
import Derived.BigCall
import Derived.BigGuard
import Derived.Test.YtigaaidacndeiaaGreatDoorShelf
namespace Go.Proofs.YtigaaidacndeiaaGreatDoor

open Go Go.RowKit

/-- What a digit says; 16: it is none. -/
def hvN (c : Nat) : Nat := if 48 ≤ c ∧ c ≤ 57 then c - 48 else if 65 ≤ c ∧ c ≤ 70 then c - 55 else if 97 ≤ c ∧ c ≤ 102 then c - 87 else 16
theorem low_all : ∀ c : Nat, c < 256 → bits BinOp.or IntKind.u8 (c : Int) 32 = ((c ||| 32 : Nat) : Int) := by decide +kernel
theorem hv_dig (c : Nat) (h0 : 48 ≤ c) (h1 : c ≤ 57) : hvN c = c - 48 := by unfold hvN; rw [if_pos ⟨h0, h1⟩]
theorem hv_let : ∀ c : Nat, c < 256 → ¬ (48 ≤ c ∧ c ≤ 57) → (97 ≤ (c ||| 32) ∧ (c ||| 32) ≤ 102) → hvN c = (c ||| 32) - 87 ∧ hvN c < 16 := by decide +kernel
theorem hv_non : ∀ c : Nat, c < 256 → ¬ (48 ≤ c ∧ c ≤ 57) → ¬ (97 ≤ (c ||| 32) ∧ (c ||| 32) ≤ 102) → hvN c = 16 := by decide +kernel
theorem hv_le : ∀ c : Nat, c < 256 → hvN c ≤ 16 := by decide +kernel
theorem let_95 : ∀ c : Nat, (97 ≤ (c ||| 32) ∧ (c ||| 32) ≤ 102) → ¬ c = 95 := by
  rintro c h rfl
  revert h
  decide




def InvH (a b k acc : Nat) : Prop := (k = 0 → acc = 0) ∧ (k = 1 → hvN a < 16 ∧ acc = hvN a) ∧ (k = 2 → hvN a < 16 ∧ hvN b < 16 ∧ acc = 16 * hvN a + hvN b)
theorem inv_step {a b k acc c : Nat} (h : InvH a b k acc) (hk : k < 2) (hc : c = if k = 0 then a else b) (hv : hvN c < 16) : InvH a b (k + 1) (acc * 16 + hvN c) := by
  obtain ⟨h0, h1, _⟩ := h
  have : k = 0 ∨ k = 1 := by omega
  rcases this with rfl | rfl
  · simp only [if_pos] at hc
    subst hc
    have := h0 rfl
    refine ⟨fun h => absurd h (by omega), fun _ => ⟨hv, by omega⟩, fun h => absurd h (by omega)⟩
  · rw [if_neg (by omega)] at hc
    subst hc
    obtain ⟨g0, g1⟩ := h1 rfl
    refine ⟨fun h => absurd h (by omega), fun h => absurd h (by omega), fun _ => ⟨g0, hv, by omega⟩⟩
theorem inv_le {a b k acc : Nat} (h : InvH a b k acc) (hk : k < 2) : acc ≤ 15 := by
  obtain ⟨h0, h1, _⟩ := h
  have : k = 0 ∨ k = 1 := by omega
  rcases this with rfl | rfl
  · have := h0 rfl; omega
  · have := h1 rfl; omega
theorem inv_no {a b k acc c : Nat} (_h : InvH a b k acc) (hk : k < 2) (hc : c = if k = 0 then a else b) (hv : hvN c = 16) : ¬ (hvN a < 16 ∧ hvN b < 16) := by
  have : k = 0 ∨ k = 1 := by omega
  rcases this with rfl | rfl
  · simp only [if_pos] at hc
    subst hc; omega
  · rw [if_neg (by omega)] at hc
    subst hc; omega

end Go.Proofs.YtigaaidacndeiaaGreatDoor

namespace Go.Proofs.YtigaaidacndeiaaGreatDoor

open Go Go.RowKit



theorem bytesW_below (w : World) (T : TypeId) (t : ByteArray) : Below w.heap.size w (Lib.bytesWorld w T t) := ⟨rfl, rfl, rfl, by rw [Lib.bytesWorld_size]; omega, fun k hk => Lib.bytesWorld_at_old w _ t k hk⟩
/-- What it answers. -/
def PuQ (p q : Nat) (e : Ending) : Prop := (p < 16 ∧ q < 16 ∧ e = .returned (.tuple #[.int .u64 ((16 * p + q : Nat) : Int), .nilIface])) ∨ (¬ (p < 16 ∧ q < 16) ∧ ∃ te pe, e = .returned (.tuple #[.int .u64 0, .iface te pe]))

end Go.Proofs.YtigaaidacndeiaaGreatDoor

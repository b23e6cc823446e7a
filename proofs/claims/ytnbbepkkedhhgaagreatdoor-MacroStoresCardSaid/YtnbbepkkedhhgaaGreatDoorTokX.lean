/-
  Tokens, the document's own answers: the bytes of an Esc with Inters.
-/
import Derived.Test.YtnbbepkkedhhgaaGreatDoorTokW
namespace Go.Proofs.YtnbbepkkedhhgaaGreatDoor

open Go Go.RowKit

def StrP (n : Nat) (u : Value) : Prop := ∃ g cap, u = .slice (some ⟨g, 0, none⟩) n cap
theorem own_slice {w : World} {B n : Nat} {T : TypeId} {v : Value} {xs : List Value} (h : w.ownsRow B T 1 v n xs) (hn : 0 < n) : ∃ g cap, v = .slice (some ⟨g, 0, none⟩) n cap := by
  rcases h.2 with ⟨_, h0⟩ | ⟨g, cap, cur, e, _⟩
  · omega
  · exact ⟨g, cap, e⟩
theorem exec_convert {P : Program} {o : Oper} {a : Act} (x : Operand) (t u : TypeId) (ho : o.op = .convert t u x) {y v : Value} {w w' : World} (hx : a.eval x = y) (hr : (convert t u y).run P w = .ok v w') : (execOp a.eval o).run P w = .ok (.value v) w' := by
  unfold execOp
  simp only [ho, Sem.run_bind, Sem.run_pure, hx, hr, Result.andThen_ok]
theorem strCells_one (s : ByteArray) : ∀ u ∈ Lib.strCells s, u.oneCell' = true := by
  intro u hu
  unfold Lib.strCells at hu
  obtain ⟨b, _, rfl⟩ := List.mem_map.1 hu
  rfl

end Go.Proofs.YtnbbepkkedhhgaaGreatDoor

/-
  Tokens of the program's own, as letters, of any kind.
-/
import Derived.Test.YtnbbepkkedhhgaaGreatDoorTokT
namespace Go.Proofs.YtnbbepkkedhhgaaGreatDoor

open Go Go.RowKit

def TlP (k : Int) (c m : Nat) (ps : List Int) (s : ByteArray) (dt : List Nat) (u : Value) : Prop := ∃ P pc D dc, u = .agg (tkC k (c : Int) (m : Int) P ps pc s D dt dc) ∧ ps.length ≤ pc ∧ dt.length ≤ dc
def TlF (B : Nat) (k : Int) (c m : Nat) (ps : List Int) (s : ByteArray) (dt : List Nat) (u : Value) (W : World) : Prop := ∃ P pc D dc, u = .agg (tkC k (c : Int) (m : Int) P ps pc s D dt dc) ∧ OInts W B (.slice P ps.length pc) ps ∧ OByt W B (.slice D dt.length dc) dt
def cellsV : Value → Array Value
  | .agg cs => cs
  | _ => #[]
theorem own_stab2 {ks : Kinds} {wr w w' : World} {T : TypeId} {n : Nat} {v : Value} {xs : List Value} (h : T ∉ boxes ks) (hk : Kept ks wr w w') (ho : w.ownsRow wr.heap.size T 1 v n xs) : w'.ownsRow wr.heap.size T 1 v n xs := by
  obtain ⟨hl, hr⟩ := ho
  rcases hr with ⟨rfl, hn⟩ | ⟨g, cap, cur, rfl, hb, hg, r⟩
  · exact ⟨hl, .inl ⟨rfl, hn⟩⟩
  · have hlt : g < w.heap.size := Blk.lt (show Blk w g T cur from hg)
    refine ⟨hl, .inr ⟨g, cap, cur, rfl, hb, (hk.block g hlt hb (fun cs T' fr e => ?_)).trans hg, r⟩⟩
    rw [hg] at e
    injection e with e
    injection e with _ e2 _
    rw [← e2]
    exact h
theorem tl_stab (ks : Kinds) (wr : World) (k : Int) (c m : Nat) (ps : List Int) (s : ByteArray) (dt : List Nat) (h1 : 3 ∉ boxes ks) (h2 : 5 ∉ boxes ks) : ∀ v w w', Kept ks wr w w' → TlF wr.heap.size k c m ps s dt v w → TlF wr.heap.size k c m ps s dt v w' := by
  rintro v w w' hk ⟨P, pc, D, dc, e, ho, hb⟩
  exact ⟨P, pc, D, dc, e, own_stab2 h1 hk ho, own_stab2 h2 hk hb⟩
theorem tl_same {B : Nat} {k : Int} {c m : Nat} {ps : List Int} {s : ByteArray} {dt : List Nat} {P D : Option Addr} {pc dc : Nat} {W : World} (h : TlF B k c m ps s dt (.agg (tkC k (c : Int) (m : Int) P ps pc s D dt dc)) W) : OInts W B (.slice P ps.length pc) ps ∧ OByt W B (.slice D dt.length dc) dt := by
  obtain ⟨P', pc', D', dc', e, ho, hb⟩ := h
  unfold tkC at e
  simp only [Value.agg.injEq, Array.mk.injEq, List.cons.injEq, Value.slice.injEq, true_and, and_true] at e
  obtain ⟨⟨rfl, rfl⟩, rfl, rfl⟩ := e
  exact ⟨ho, hb⟩


end Go.Proofs.YtnbbepkkedhhgaaGreatDoor

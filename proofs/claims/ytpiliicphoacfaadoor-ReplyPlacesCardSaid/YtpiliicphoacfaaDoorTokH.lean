/-
  Tokens: bytes of the call's own; what leads a sequence; its signs.
-/
import Derived.Test.YtpiliicphoacfaaDoorTokG
import Derived.Lib.AppendStr
namespace Go.Proofs.YtpiliicphoacfaaDoor

open Go Go.RowKit

/-- A slice of the call's own that holds just these bytes. -/
def OByt (w : World) (base : Nat) (v : Value) (ns : List Nat) : Prop := w.ownsRow base 5 1 v ns.length (ns.map fun (n : Nat) => Value.int .u8 (n : Int))
theorem obyt_own {w : World} {base : Nat} {v : Value} {ns : List Nat} (h : OByt w base v ns) : w.ownsRow base 5 1 v ns.length (ns.map fun (n : Nat) => Value.int .u8 (n : Int)) := h
theorem OByt.next {w w' : World} {base : Nat} {v : Value} {l : List Nat} (h : OByt w base v l) (hb : Below w.heap.size w w') : OByt w' base v l :=
  World.ownsRow.kept (row := none) h ⟨hb.os, hb.tape, hb.output, hb.size, fun k hk _ => hb.block k hk⟩ (by cases v.ownBlock <;> simp)
theorem OByt.reads {w : World} {base : Nat} {A : Option Addr} {c : Nat} {ns : List Nat} (h : OByt w base (.slice A ns.length c) ns) : RByt w A ns := Reads.of_own h
theorem OByt.form {w : World} {base : Nat} {v : Value} {ns : List Nat} (h : OByt w base v ns) : ∃ A c, v = .slice A ns.length c := by
  rcases h.2 with ⟨rfl, hn⟩ | ⟨g, cap, _, rfl, _⟩
  · exact ⟨none, 0, by rw [hn]⟩
  · exact ⟨_, _, rfl⟩
theorem oby_one (ns : List Nat) : ∀ u ∈ ns.map (fun (n : Nat) => Value.int .u8 (n : Int)), u.oneCell' = true := by
  intro u hu
  obtain ⟨n, _, rfl⟩ := List.mem_map.1 hu
  rfl
theorem strCells_nat (s : ByteArray) : Lib.strCells s = (s.data.toList.map UInt8.toNat).map fun (n : Nat) => Value.int .u8 (n : Int) := by
  unfold Lib.strCells
  simp
def leadL (c : Nat) (eight : Bool) : List Nat := if eight = true ∧ 64 ≤ c ∧ c ≤ 95 then [c + 64] else [27, c]
set_option maxRecDepth 100000 in
set_option maxHeartbeats 4000000 in
theorem lead_any (c : Nat) (hc : c < 256) (eight : Bool) (w : World) : Calls Tryd.prog 22 #[.int .u8 (c : Int), .bool eight] w fun e w' => ∃ v, e = .returned v ∧ OByt w' w.heap.size v (leadL c eight) ∧ Below w.heap.size w w' := by
  have HA : Hid (∀ W, Calls Tryd.prog 41 #[.int .u8 (c : Int), .int .u8 64, .int .u8 95] W fun e w' => e = .returned (.bool (amongB c 64 95)) ∧ W = w') := Lib.hid (fun W => among_any c 64 95 W)
  have HB := Lib.hid (fun o => (Below.refl w.heap.size w).alloc (Nat.le_refl _) o)
  have HO2 : Hid (OByt (w.alloc (.cells #[.int .u8 27, .int .u8 (c : Int)] 5)) w.heap.size (.slice (some ⟨w.heap.size, 0, none⟩) 2 2) [27, c]) := Lib.hid (World.ownsRow_lit (e := 5) (size := 1) w #[.int .u8 27, .int .u8 (c : Int)] 2 (Nat.le_refl _) (by unfold maxLen; omega) rfl)
  cases eight with
  | false =>
    rw [show leadL c false = [27, c] from rfl]
    go_enter Tryd.func22, Tryd.ntmps22
    go_wp2_with fail
    go_ret
    exact ⟨_, rfl, HO2.out, HB.out _⟩
  | true =>
    by_cases h : 64 ≤ c ∧ c ≤ 95
    · have ha : amongB c 64 95 = true := by unfold amongB; simp; omega
      rw [ha] at HA
      have hl : leadL c true = [c + 64] := if_pos ⟨rfl, h⟩
      rw [hl]
      have hw : IntKind.u8.wrap ((c : Int) + 64) = ((c + 64 : Nat) : Int) := by rw [IntKind.wrap_u8]; omega
      have HO1 : Hid (OByt (w.alloc (.cells #[.int .u8 ((c + 64 : Nat) : Int)] 5)) w.heap.size (.slice (some ⟨w.heap.size, 0, none⟩) 1 1) [c + 64]) := Lib.hid (World.ownsRow_lit (e := 5) (size := 1) w #[.int .u8 ((c + 64 : Nat) : Int)] 1 (Nat.le_refl _) (by unfold maxLen; omega) rfl)
      generalize c + 64 = d at *
      clear h ha hl
      go_enter Tryd.func22, Tryd.ntmps22
      go_wp2_with fail
      refine (HA.out _).mono ?_
      rintro e w1 ⟨rfl, rfl⟩
      go_wp2_with fail
      go_ret
      exact ⟨_, rfl, HO1.out, HB.out _⟩
    · have ha : amongB c 64 95 = false := by unfold amongB; simp; omega
      rw [ha] at HA
      have hl : leadL c true = [27, c] := if_neg (fun x => h x.2)
      rw [hl]
      clear h ha hl
      go_enter Tryd.func22, Tryd.ntmps22
      go_wp2_with fail
      refine (HA.out _).mono ?_
      rintro e w1 ⟨rfl, rfl⟩
      go_wp2_with fail
      go_ret
      exact ⟨_, rfl, HO2.out, HB.out _⟩
end Go.Proofs.YtpiliicphoacfaaDoor

/-
  The walks of the reference's stops: a yes or no for every column.
-/
import Derived.Test.YtnfdgioapbkonaaDoorTabF
import Derived.Test.YtnfdgioapbkonaaDoorKit3
namespace Go.Proofs.YtnfdgioapbkonaaDoor

open Go Go.RowKit

/-- A slice of yes and no. -/
def RBools (w : World) (A : Option Addr) (l : List Bool) : Prop := Reads w w.heap.size 1 A l.length (l.map Value.bool)
theorem RBools.next {w w' : World} {A : Option Addr} {l : List Bool} (h : RBools w A l) (hb : Below w.heap.size w w') : RBools w' A l := (Reads.below h hb).more hb.size
theorem RBools.at_ {w : World} {A : Option Addr} {l : List Bool} (h : RBools w A l) {k : Nat} (hk : k < l.length) :
    ∃ ad, A = some ad ∧ ad.block < w.heap.size ∧ w.cell? (ad.add k) = some (.bool l[k]) := by
  obtain ⟨ad, u, e, hb, hu, hc⟩ := Reads.at_ h hk
  refine ⟨ad, e, hb, ?_⟩
  rw [hc, ← hu]
  simp [List.getElem?_eq_getElem hk]
def OBools (w : World) (base : Nat) (v : Value) (l : List Bool) : Prop := w.ownsRow base 4 1 v l.length (l.map Value.bool)
theorem obools_own {w : World} {base : Nat} {v : Value} {l : List Bool} (h : OBools w base v l) : w.ownsRow base 4 1 v l.length (l.map Value.bool) := h
theorem info_bool : (Tryd.prog.info? 4).map (fun i => (i.zero, i.size, i.bytes)) = some (some (.bool false), 1, 1) := by kernel_rfl
theorem OBools.reads {w : World} {base : Nat} {A : Option Addr} {c : Nat} {l : List Bool} (h : OBools w base (.slice A l.length c) l) : RBools w A l := Reads.of_own h
theorem OBools.form {w : World} {base : Nat} {v : Value} {l : List Bool} (h : OBools w base v l) : ∃ A c, v = .slice A l.length c := by
  rcases h.2 with ⟨rfl, hn⟩ | ⟨g, cap, _, rfl, _⟩
  · exact ⟨none, 0, by rw [hn]⟩
  · exact ⟨_, _, rfl⟩
theorem OBools.next {w w' : World} {base : Nat} {v : Value} {l : List Bool} (h : OBools w base v l) (hb : Below w.heap.size w w') : OBools w' base v l :=
  World.ownsRow.kept (row := none) h ⟨hb.os, hb.tape, hb.output, hb.size, fun k hk _ => hb.block k hk⟩ (by cases v.ownBlock <;> simp)
theorem OBools.nil (w : World) (base : Nat) : OBools w base (.slice none 0 0) [] := ⟨rfl, .inl ⟨rfl, rfl⟩⟩
theorem bools_one (l : List Bool) : ∀ u ∈ l.map Value.bool, u.oneCell' = true := by
  intro u hu
  obtain ⟨c, _, rfl⟩ := List.mem_map.1 hu
  rfl
def hOf (l : List Bool) : Nat → Bool := fun c => l.getD c false
theorem hOf_in (l : List Bool) (k : Nat) (h : k < l.length) : hOf l k = l[k] := by unfold hOf; rw [List.getD_eq_getElem?_getD, List.getElem?_eq_getElem h]; rfl
theorem hOf_out (l : List Bool) (k : Nat) (h : l.length ≤ k) : hOf l k = false := by unfold hOf; rw [List.getD_eq_getElem?_getD, List.getElem?_eq_none h]; rfl

set_option maxHeartbeats 2000000 in
theorem refList_any (A : Option Addr) (c : Nat) (l : List Bool) (hl : l.length ≤ 500) (w : World) (hr : RBools w A l) :
    Calls Tryd.prog 25 #[.slice A l.length c] w fun e w' => ∃ v, e = .returned v ∧ OInts w' w.heap.size v (lstP (hOf l) l.length) ∧ Below w.heap.size w w' := by
  have HR := Lib.hid hr
  clear hr
  go_enter Tryd.func25, Tryd.ntmps25
  go_wp2_with fail
  go_loopw [3, 4] (fun v i wr => ∃ k : Nat, k ≤ l.length ∧ i = .int .i64 k ∧ OInts wr w.heap.size v (lstP (hOf l) k) ∧ Below w.heap.size w wr) (fun _ i _ => l.length - (intOf i).toNat)
  case atStart => exact ⟨0, by omega, rfl, OInts.nil _ _, Below.refl _ _⟩
  case round =>
    obtain ⟨k, hk, rfl, hown, hb⟩ := hrel
    have HOwn := Lib.hid hown; have HB := Lib.hid hb
    clear hown hb
    by_cases hlt : k < l.length
    · obtain ⟨ad, rfl, _, hc⟩ := (HR.out.next HB.out).at_ hlt
      rw [← hOf_in l k hlt] at hc
      rcases hh : hOf l k with _ | _
      · rw [hh] at hc
        have HL := Lib.hid (lstP_no (hOf l) k hh)
        clear hh
        go_wp2_with fail
        go_roundw
        case rel => exact ⟨k + 1, by omega, by go_num, by rw [HL.out]; exact HOwn.out, HB.out⟩
        case measure => simp [intOf]; omega
      · rw [hh] at hc
        have HL := Lib.hid (lstP_yes (hOf l) k hh)
        have hll := lstP_len (hOf l) k
        have hz1 := HB.out.size
        clear hh
        generalize lstP (hOf l) k = L at *
        go_wp2_with (at_builtin; refine wpList_push rfl _ _ _ rfl w.heap.size 3 _ 8 Tryd.underlying35 info_int rfl _ _ _ rfl (oints_own HOwn.out) (.int .i64 (k : Int)) rfl _ _ _ rfl rfl (by unfold maxLen; omega) (by omega) hz1 ?_; intro v3 w3 hown3 hg3 hb3)
        go_roundw
        case rel => exact ⟨k + 1, by omega, by go_num, by rw [HL.out]; unfold OInts; rw [List.length_append, List.map_append]; exact hown3, HB.out.trans hb3⟩
        case measure => simp [intOf]; omega
    · obtain rfl : k = l.length := by omega
      go_wp2_with fail
      go_ret
      exact ⟨_, rfl, HOwn.out, HB.out⟩


end Go.Proofs.YtnfdgioapbkonaaDoor

/-
  The walks of the reference's stops: a yes or no for every column.
-/
import Derived.Test.YtnbopgnpkbdjdaaTabF
import Derived.Test.YtnbopgnpkbdjdaaKit3
namespace Go.Proofs.Ytnbopgnpkbdjdaa
open Go Go.RowKit

/-- A slice of yes and no. -/
def RBools (w : World) (A : Option Addr) (l : List Bool) : Prop := Reads w w.heap.size 1 A l.length (l.map Value.bool)
theorem RBools.next {w w' : World} {A : Option Addr} {l : List Bool} (h : RBools w A l) (hb : Below w.heap.size w w') : RBools w' A l := (Reads.below h hb).more hb.size
theorem RBools.at_ {w : World} {A : Option Addr} {l : List Bool} (h : RBools w A l) {k : Nat} (hk : k < l.length) :
    ∃ ad, A = some ad ∧ ad.block < w.heap.size ∧ w.cell? (ad.add k) = some (.bool l[k]) := by
  obtain ⟨ad, u, e, hb, hu, hc⟩ := Reads.at_ h hk
  refine ⟨ad, e, hb, ?_⟩
  rw [hc, ← hu]
  simp [List.getElem?_eq_getElem hk]
def OBools (w : World) (base : Nat) (v : Value) (l : List Bool) : Prop := w.ownsRow base 4 1 v l.length (l.map Value.bool)
theorem obools_own {w : World} {base : Nat} {v : Value} {l : List Bool} (h : OBools w base v l) : w.ownsRow base 4 1 v l.length (l.map Value.bool) := h
theorem info_bool : (Try.prog.info? 4).map (fun i => (i.zero, i.size, i.bytes)) = some (some (.bool false), 1, 1) := by kernel_rfl
theorem OBools.reads {w : World} {base : Nat} {A : Option Addr} {c : Nat} {l : List Bool} (h : OBools w base (.slice A l.length c) l) : RBools w A l := Reads.of_own h
theorem OBools.form {w : World} {base : Nat} {v : Value} {l : List Bool} (h : OBools w base v l) : ∃ A c, v = .slice A l.length c := by
  rcases h.2 with ⟨rfl, hn⟩ | ⟨g, cap, _, rfl, _⟩
  · exact ⟨none, 0, by rw [hn]⟩
  · exact ⟨_, _, rfl⟩
theorem OBools.next {w w' : World} {base : Nat} {v : Value} {l : List Bool} (h : OBools w base v l) (hb : Below w.heap.size w w') : OBools w' base v l :=
  World.ownsRow.kept (row := none) h ⟨hb.os, hb.tape, hb.output, hb.size, fun k hk _ => hb.block k hk⟩ (by cases v.ownBlock <;> simp)
theorem OBools.nil (w : World) (base : Nat) : OBools w base (.slice none 0 0) [] := ⟨rfl, .inl ⟨rfl, rfl⟩⟩
theorem bools_one (l : List Bool) : ∀ u ∈ l.map Value.bool, u.oneCell' = true := by
  intro u hu
  obtain ⟨c, _, rfl⟩ := List.mem_map.1 hu
  rfl
def hOf (l : List Bool) : Nat → Bool := fun c => l.getD c false
theorem hOf_in (l : List Bool) (k : Nat) (h : k < l.length) : hOf l k = l[k] := by unfold hOf; rw [List.getD_eq_getElem?_getD, List.getElem?_eq_getElem h]; rfl
theorem hOf_out (l : List Bool) (k : Nat) (h : l.length ≤ k) : hOf l k = false := by unfold hOf; rw [List.getD_eq_getElem?_getD, List.getElem?_eq_none h]; rfl

set_option maxHeartbeats 2000000 in
theorem refList_any (A : Option Addr) (c : Nat) (l : List Bool) (hl : l.length ≤ 500) (w : World) (hr : RBools w A l) :
    Calls Try.prog 15 #[.slice A l.length c] w fun e w' => ∃ v, e = .returned v ∧ OInts w' w.heap.size v (lstP (hOf l) l.length) ∧ Below w.heap.size w w' := by
  have HR := Lib.hid hr
  clear hr
  go_enter Try.func15, Try.ntmps15
  go_wp2_with fail
  go_loopw [3, 4] (fun v i wr => ∃ k : Nat, k ≤ l.length ∧ i = .int .i64 k ∧ OInts wr w.heap.size v (lstP (hOf l) k) ∧ Below w.heap.size w wr) (fun _ i _ => l.length - (intOf i).toNat)
  case atStart => exact ⟨0, by omega, rfl, OInts.nil _ _, Below.refl _ _⟩
  case round =>
    obtain ⟨k, hk, rfl, hown, hb⟩ := hrel
    have HOwn := Lib.hid hown; have HB := Lib.hid hb
    clear hown hb
    by_cases hlt : k < l.length
    · obtain ⟨ad, rfl, _, hc⟩ := (HR.out.next HB.out).at_ hlt
      rw [← hOf_in l k hlt] at hc
      rcases hh : hOf l k with _ | _
      · rw [hh] at hc
        have HL := Lib.hid (lstP_no (hOf l) k hh)
        clear hh
        go_wp2_with fail
        go_roundw
        case rel => exact ⟨k + 1, by omega, by go_num, by rw [HL.out]; exact HOwn.out, HB.out⟩
        case measure => simp [intOf]; omega
      · rw [hh] at hc
        have HL := Lib.hid (lstP_yes (hOf l) k hh)
        have hll := lstP_len (hOf l) k
        have hz1 := HB.out.size
        clear hh
        generalize lstP (hOf l) k = L at *
        go_wp2_with (at_builtin; refine wpList_push rfl _ _ _ rfl w.heap.size 3 _ 8 Try.underlying35 info_int rfl _ _ _ rfl (oints_own HOwn.out) (.int .i64 (k : Int)) rfl _ _ _ rfl rfl (by unfold maxLen; omega) (by omega) hz1 ?_; intro v3 w3 hown3 hg3 hb3)
        go_roundw
        case rel => exact ⟨k + 1, by omega, by go_num, by rw [HL.out]; unfold OInts; rw [List.length_append, List.map_append]; exact hown3, HB.out.trans hb3⟩
        case measure => simp [intOf]; omega
    · obtain rfl : k = l.length := by omega
      go_wp2_with fail
      go_ret
      exact ⟨_, rfl, HOwn.out, HB.out⟩

set_option maxRecDepth 100000 in
set_option maxHeartbeats 4000000 in
theorem refNext_any (A : Option Addr) (c : Nat) (l : List Bool) (hl : l.length ≤ 500) (col k0 : Int) (hless : Less k0) (w : World) (hr : RBools w A l) :
    Calls Try.prog 20 #[.slice A l.length c, .int .i64 col, .int .i64 k0] w fun e w' => e = .returned (.int .i64 (nextP (hOf l) l.length col k0)) ∧ Below w.heap.size w w' := by
  have HR := Lib.hid hr
  clear hr
  by_cases h0 : l.length = 0
  · have HP : Hid (nextP (hOf l) l.length col k0 = 0) := Lib.hid (by
      rw [h0]
      by_cases hk : k0 < 1
      · rw [nextP_small _ _ _ _ hk]; unfold nearP; omega
      · rw [nextP_none _ _ _ _ hk rfl]; unfold nearP; omega)
    generalize nextP (hOf l) l.length col k0 = z at *
    generalize l.length = n at *
    subst h0
    go_enter Try.func20, Try.ntmps20
    go_wp2_with fail
    go_ret
    exact ⟨ret_int HP.out.symm, Below.refl _ _⟩
  · have hz0 : ((l.length : Int) == 0) = false := by rw [beq_eq_false_iff_ne]; omega
    by_cases hk : k0 < 1
    · have HP : Hid (nextP (hOf l) l.length col k0 = nearP l.length col) := Lib.hid (nextP_small _ _ _ _ hk)
      have hd : decide (k0 < 1) = true := by simpa using hk
      have HN : Hid (nearP l.length col = max (min col (l.length - 1)) 0) := Lib.hid rfl
      have hpos : 0 < l.length := by omega
      clear h0 hk
      generalize nextP (hOf l) l.length col k0 = z at *
      generalize nearP l.length col = y at *
      generalize l.length = n at *
      by_cases hc0 : col < 0
      · have hd2 : decide (col < 0) = true := by simpa using hc0
        go_enter Try.func20, Try.ntmps20
        go_wp2_with fail
        go_ret
        exact ⟨ret_int (by rw [HP.out, HN.out]; omega), Below.refl _ _⟩
      · have hd2 : decide (col < 0) = false := by simpa using hc0
        by_cases hcn : (n : Int) ≤ col
        · have hd3 : decide ((n : Int) ≤ col) = true := by simpa using hcn
          go_enter Try.func20, Try.ntmps20
          go_wp2_with fail
          go_ret
          exact ⟨ret_int (by rw [HP.out, HN.out]; omega), Below.refl _ _⟩
        · have hd3 : decide ((n : Int) ≤ col) = false := by simpa using hcn
          go_enter Try.func20, Try.ntmps20
          go_wp2_with fail
          go_ret
          exact ⟨ret_int (by rw [HP.out, HN.out]; omega), Below.refl _ _⟩
    · have hd : decide (k0 < 1) = false := by simpa using hk
      have HS2 := Lib.hid (nextP_some (hOf l) l.length col k0 hk)
      have HN2 : Hid (nextG (hOf l) col l.length 0 k0 = none → nextP (hOf l) l.length col k0 = l.length - 1) := Lib.hid (fun e => by rw [nextP_none _ _ _ _ hk e]; unfold nearP; omega)
      have HLess := Lib.hid hless
      clear hless h0
      generalize nextP (hOf l) l.length col k0 = z at *
      go_enter Try.func20, Try.ntmps20
      go_wp2_with fail
      go_loop [2, 7] (fun j i => ∃ (a : Nat) (k : Int), a ≤ l.length ∧ 1 ≤ k ∧ k ≤ k0 ∧ i = .int .i64 a ∧ j = .int .i64 k ∧ nextG (hOf l) col (l.length - a) a k = nextG (hOf l) col l.length 0 k0) (fun _ i => l.length - (intOf i).toNat)
      case atStart => exact ⟨0, k0, by omega, by omega, Int.le_refl _, rfl, rfl, rfl⟩
      case round =>
        obtain ⟨a, k, ha, hk1, hk0, rfl, rfl, hg⟩ := hrel
        clear hd
        by_cases hlt : a < l.length
        · have hr : l.length - a = (l.length - (a + 1)) + 1 := by omega
          rw [hr, nextG_succ] at hg
          obtain ⟨ad, rfl, _, hc⟩ := HR.out.at_ hlt
          rw [← hOf_in l a hlt] at hc
          by_cases hcol : col < (a : Int)
          · have hd1 : decide (col < (a : Int)) = true := by simpa using hcol
            rcases hh : hOf l a with _ | _
            · rw [hh] at hc hg
              rw [Bool.and_false, if_neg (by simp)] at hg
              have HG := Lib.hid hg
              clear hg hh hr
              go_wp2_with fail
              go_round
              case rel => exact ⟨a + 1, k, by omega, hk1, hk0, by go_num, rfl, HG.out⟩
              case measure => simp [intOf]; omega
            · rw [hh] at hc hg
              rw [hd1, Bool.true_and, if_pos rfl] at hg
              have hw := HLess.out k hk1 hk0
              clear hh hr
              by_cases h1 : k - 1 = 0
              · rw [if_pos h1] at hg
                obtain rfl : k = 1 := by omega
                have HA := Lib.hid (HS2.out a hg.symm)
                clear hg h1 hw
                go_wp2_with fail
                go_ret
                exact ⟨ret_int HA.out.symm, Below.refl _ _⟩
              · rw [if_neg h1] at hg
                have HG := Lib.hid hg
                have hb0 : (k - 1 == 0) = false := by simpa using h1
                clear hg h1
                go_wp2_with fail
                clear hw
                go_round
                case rel => exact ⟨a + 1, k - 1, by omega, by simp at hb0; omega, by omega, by go_num, rfl, HG.out⟩
                case measure => simp [intOf]; omega
          · have hd1 : decide (col < (a : Int)) = false := by simpa using hcol
            rw [hd1, Bool.false_and, if_neg (by simp)] at hg
            have HG := Lib.hid hg
            clear hg hr hc
            go_wp2_with fail
            go_round
            case rel => exact ⟨a + 1, k, by omega, hk1, hk0, by go_num, rfl, HG.out⟩
            case measure => simp [intOf]; omega
        · obtain rfl : a = l.length := by omega
          rw [Nat.sub_self] at hg
          have HA := Lib.hid (HN2.out hg.symm)
          clear hg
          go_wp2_with fail
          go_ret
          exact ⟨ret_int HA.out.symm, Below.refl _ _⟩
end Go.Proofs.Ytnbopgnpkbdjdaa

/-
  Layer 22: what a key sends, way by way.
  Layer 22: what a key sends, the other ways.
  Layer 22: a character, a function key; what a key sends.
-/
import Derived.Test.YtigaaidacndeiaaGreatDoorUdkG
import Derived.Test.YtigaaidacndeiaaGreatDoorRepJ
import Derived.Test.YtigaaidacndeiaaGreatDoorModB
namespace Go.Proofs.YtigaaidacndeiaaGreatDoor

open Go Go.RowKit

/-- It answers bytes. -/
def GivB (B : Nat) (w' : World) (e : Ending) (l : List Nat) : Prop := ∃ A c, e = .returned (.slice A l.length c) ∧ RByt w' A l ∧ ∀ ad, A = some ad → B ≤ ad.block
theorem givB_nil {B : Nat} (w' : World) : GivB B w' (.returned (.slice none 0 0)) [] := ⟨none, 0, rfl, Reads.none_, fun _ e => by cases e⟩
theorem givB_new {B : Nat} (w : World) (ns : List Nat) (cs : Array Value) (t : TypeId) (hcs : cs = (ns.map fun (n : Nat) => Value.int .u8 (n : Int)).toArray) (g n c : Nat) (hg : g = w.heap.size) (hn : n = ns.length) (hB : B ≤ g) : GivB B (w.alloc (.cells cs t)) (.returned (.slice (some ⟨g, 0, none⟩) n c)) ns := by
  subst hg hn hcs
  refine ⟨_, _, rfl, ⟨by simp, fun hn => ⟨_, rfl, by simp, fun j u hu => ?_⟩⟩, fun ad e => by injection e with e; subst e; exact hB⟩
  have hadd : (⟨w.heap.size, 0, none⟩ : Addr).add j = ⟨w.heap.size, j, none⟩ := by unfold Addr.add; split <;> simp_all
  rw [hadd, (Blk.new w t _).cell j]
  simpa using hu
theorem givB_of {w w' : World} {e : Ending} {l : List Nat} (h : Gives w w' e l) : GivB w.heap.size w' e l := by
  obtain ⟨v, rfl, ho⟩ := h
  have ho' := ho
  rcases ho.2 with ⟨rfl, hn⟩ | ⟨g, cap, cur, rfl, hb, hh, hc, r⟩
  · have : l = [] := List.eq_nil_of_length_eq_zero hn
    subst this
    exact givB_nil w'
  · exact ⟨_, _, rfl, OByt.reads ho', fun ad e => by injection e with e; subst e; exact hb⟩
theorem GivB.next {B : Nat} {w w' : World} {e : Ending} {l : List Nat} (h : GivB B w e l) (hb : Below w.heap.size w w') : GivB B w' e l := by
  obtain ⟨A, c, he, hr, hf⟩ := h
  exact ⟨A, c, he, hr.next hb, hf⟩
theorem GivB.up {B B' : Nat} {w : World} {e : Ending} {l : List Nat} (h : GivB B w e l) (hb : B' ≤ B) : GivB B' w e l := by
  obtain ⟨A, c, he, hr, hf⟩ := h
  exact ⟨A, c, he, hr, fun ad e => Nat.le_trans hb (hf ad e)⟩
/-- A board: a key, the modes, the level, bits, the texts' box. -/
def bdC (k : Int) (c : Nat) (sh ct : Bool) (m : Nat) (lv : Int) (eg : Bool) (K : Nat) : Array Value := #[.int .i64 k, .int .u8 (c : Int), .bool sh, .bool ct, .int .u32 (m : Int), .int .i64 lv, .bool eg, .pointer (some ⟨K, 0, none⟩)]
section

variable (k : Int) (c : Nat) (sh ct : Bool) (m : Nat) (lv : Int) (eg : Bool) (K : Nat)

theorem beyond_any (w : World) : Calls Tryz.prog 67 #[.agg (bdC k c sh ct m lv eg K)] w fun e w' => e = .returned (.bool (decide (2 ≤ lv))) ∧ Below w.heap.size w w' := by
  unfold bdC
  go_enter Tryz.func67, Tryz.ntmps67
  go_wp2
  go_ret
  exact ⟨rfl, (Below.refl _ _).alloc (Nat.le_refl _) _⟩
def charP : List Nat := if ct && decide (64 ≤ c) && decide (c ≤ 126) then [c % 32] else if ct && decide (c = 32) then [0] else if ct && decide (c = 63) then [127] else if (decide (32 ≤ c) && decide (c ≤ 126)) || (decide (160 ≤ c) && decide (2 ≤ lv)) then [c] else []
def enterP (lnm : Bool) : List Nat := if lnm then [13, 10] else [13]
def backP (bkm : Bool) : List Nat := if bkm then [8] else [127]
def singP (eg : Bool) (c : Nat) : List Nat := (if eg then [143] else [27, 79]) ++ [c]
def tabP : List Nat := if sh && decide (2 ≤ lv) then repL 4 ⟨#[90]⟩ ⟨#[]⟩ [] eg else [9]
set_option maxHeartbeats 1000000 in
theorem escK_any (w : World) : Calls Tryz.prog 45 #[.agg (bdC k c sh ct m lv eg K)] w fun e w' => GivB w.heap.size w' e [27] ∧ Below w.heap.size w w' := by
  unfold bdC
  go_enter Tryz.func45, Tryz.ntmps45
  go_wp2
  go_ret
  exact ⟨givB_new _ [27] _ _ rfl _ _ _ (by simp) rfl (by first | omega | (simp; omega) | simp | exact HB2.out.size), ((Below.refl _ _).alloc (Nat.le_refl _) _).alloc (by simp) _⟩
set_option maxHeartbeats 1000000 in
theorem enterK_any (hm : m < 2 ^ 32) (w : World) : Calls Tryz.prog 42 #[.agg (bdC k c sh ct m lv eg K)] w fun e w' => GivB w.heap.size w' e (enterP (hasN m 3)) ∧ Below w.heap.size w w' := by
  have HH := Lib.hid (fun W => has_any m hm 3 W)
  unfold bdC
  unfold enterP
  generalize hasN m 3 = b at *
  clear hm
  rcases b with _ | _
  all_goals
    go_enter Tryz.func42, Tryz.ntmps42
    go_wp2_with (refine (HH.out _).mono ?_; rintro e w' ⟨rfl, rfl⟩)
    go_ret
  · exact ⟨givB_new _ [13] _ _ rfl _ _ _ (by simp) rfl (by first | omega | (simp; omega) | simp | exact HB2.out.size), ((Below.refl _ _).alloc (Nat.le_refl _) _).alloc (by simp) _⟩
  · exact ⟨givB_new _ [13, 10] _ _ rfl _ _ _ (by simp) rfl (by first | omega | (simp; omega) | simp | exact HB2.out.size), ((Below.refl _ _).alloc (Nat.le_refl _) _).alloc (by simp) _⟩
set_option maxHeartbeats 1000000 in
theorem backK_any (hm : m < 2 ^ 32) (w : World) : Calls Tryz.prog 44 #[.agg (bdC k c sh ct m lv eg K)] w fun e w' => GivB w.heap.size w' e (backP (hasN m 13)) ∧ Below w.heap.size w w' := by
  have HH := Lib.hid (fun W => has_any m hm 13 W)
  unfold bdC
  unfold backP
  generalize hasN m 13 = b at *
  clear hm
  rcases b with _ | _
  all_goals
    go_enter Tryz.func44, Tryz.ntmps44
    go_wp2_with (refine (HH.out _).mono ?_; rintro e w' ⟨rfl, rfl⟩)
    go_ret
  · exact ⟨givB_new _ [127] _ _ rfl _ _ _ (by simp) rfl (by first | omega | (simp; omega) | simp | exact HB2.out.size), ((Below.refl _ _).alloc (Nat.le_refl _) _).alloc (by simp) _⟩
  · exact ⟨givB_new _ [8] _ _ rfl _ _ _ (by simp) rfl (by first | omega | (simp; omega) | simp | exact HB2.out.size), ((Below.refl _ _).alloc (Nat.le_refl _) _).alloc (by simp) _⟩
set_option maxHeartbeats 2000000 in
theorem tabK_any (w : World) (ht : Ten w) : Calls Tryz.prog 43 #[.agg (bdC k c sh ct m lv eg K)] w fun e w' => GivB w.heap.size w' e (tabP sh lv eg) ∧ Below w.heap.size w w' := by
  have HBy := Lib.hid (fun W => beyond_any k c sh ct m lv eg K W)
  have HT := Lib.hid ht
  unfold bdC at *
  unfold tabP
  clear ht
  have HCs := Lib.hid (fun W t => csi_any eg ⟨#[90]⟩ none 0 [] (by simp [maxLen]) (by simp) (size_le (n := 1) rfl (by decide)) W t (rints_nil W))
  have hB0 := Lib.hid (show Below w.heap.size w (w.alloc (.cells #[.int .i64 k, .int .u8 (c : Int), .bool sh, .bool ct, .int .u32 (m : Int), .int .i64 lv, .bool eg, .pointer (some ⟨K, 0, none⟩)] 75)) from (Below.refl _ _).alloc (Nat.le_refl _) _)
  generalize repL 4 ⟨#[90]⟩ ⟨#[]⟩ [] eg = rl at *
  rcases sh with _ | _
  · --#1
    go_enter Tryz.func43, Tryz.ntmps43
    go_wp2
    go_ret
    exact ⟨givB_new _ [9] _ _ rfl _ _ _ (by simp) rfl (by first | omega | (simp; omega) | simp | exact HB2.out.size), hB0.out.alloc (by simp) _⟩
  · generalize decide (2 ≤ lv) = b at *
    have c6 := (Blk.new w 75 #[.int .i64 k, .int .u8 (c : Int), .bool true, .bool ct, .int .u32 (m : Int), .int .i64 lv, .bool eg, .pointer (some ⟨K, 0, none⟩)])
    have HBk := Lib.hid c6
    clear c6
    rcases b with _ | _
    · --#2
      go_enter Tryz.func43, Tryz.ntmps43
      go_wp2_with (refine (HBy.out _).mono ?_; rintro e w1 ⟨rfl, hb1⟩; have HB1 := Lib.hid hb1; clear hb1)
      go_ret
      exact ⟨givB_new _ [9] _ _ rfl _ _ _ (by simp) rfl (Nat.le_trans hB0.out.size HB1.out.size), (hB0.out.trans (HB1.out.mono hB0.out.size)).alloc (Nat.le_trans hB0.out.size HB1.out.size) _⟩
    · --#3
      go_enter Tryz.func43, Tryz.ntmps43
      go_wp2_with fail
      refine (HBy.out _).mono ?_
      rintro e w1 ⟨rfl, hb1⟩
      have q6 : w1.cell? ⟨w.heap.size, 6, none⟩ = some (.bool eg) := (HBk.out.next hb1).cell 6
      have HB1 := Lib.hid (hB0.out.trans (hb1.mono hB0.out.size))
      clear hb1 HBk
      go_wp2_with fail
      refine (HCs.out _ (HT.out.next HB1.out)).mono ?_
      rintro e w2 ⟨⟨v, rfl, hv⟩, hb2⟩
      have HV := Lib.hid (givB_of ⟨v, rfl, hv⟩)
      clear hv
      go_wp2_with fail
      go_ret
      exact ⟨HV.out.up HB1.out.size, HB1.out.trans (hb2.mono HB1.out.size)⟩
end

end Go.Proofs.YtigaaidacndeiaaGreatDoor

namespace Go.Proofs.YtigaaidacndeiaaGreatDoor

open Go Go.RowKit

section

variable (k : Int) (c : Nat) (sh ct : Bool) (m : Nat) (lv : Int) (eg : Bool) (K : Nat)

theorem bd_below (w : World) : Below w.heap.size w (w.alloc (.cells (bdC k c sh ct m lv eg K) 75)) := (Below.refl _ _).alloc (Nat.le_refl _) _
theorem bd_blk (w : World) : Blk (w.alloc (.cells (bdC k c sh ct m lv eg K) 75)) w.heap.size 75 (bdC k c sh ct m lv eg K) := Blk.new _ _ _
def numbP (n : Int) : List Nat := repL 4 ⟨#[126]⟩ ⟨#[]⟩ [n] eg
set_option maxHeartbeats 2000000 in
theorem numbK_any (n : Int) (w : World) (ht : Ten w) : Calls Tryz.prog 69 #[.agg (bdC k c sh ct m lv eg K), .int .i64 n] w fun e w' => GivB w.heap.size w' e (numbP eg n) ∧ Below w.heap.size w w' := by
  have HT := Lib.hid ht
  have HB0 := Lib.hid ((bd_below k c sh ct m lv eg K w).alloc (by simp) (.cells #[.int .i64 n] 3))
  have hcs := csi_any eg ⟨#[126]⟩ (some ⟨w.heap.size + 1, 0, none⟩) 1 [n] (by simp [maxLen]) (by simp) (size_le (n := 1) rfl (by decide)) _ (HT.out.next HB0.out) (rints_new (w.alloc (.cells (bdC k c sh ct m lv eg K) 75)) 3 [n] #[.int .i64 n] rfl _ (by simp))
  unfold bdC numbP at *
  have HCs := Lib.hid hcs
  clear ht hcs
  generalize repL 4 ⟨#[126]⟩ ⟨#[]⟩ [n] eg = rl at *
  --#1
  go_enter Tryz.func69, Tryz.ntmps69
  go_wp2_with fail
  refine HCs.out.mono ?_
  rintro e w2 ⟨⟨v, rfl, hv⟩, hb2⟩
  have HV := Lib.hid (givB_of ⟨v, rfl, hv⟩)
  clear hv
  go_wp2_with fail
  go_ret
  exact ⟨HV.out.up HB0.out.size, HB0.out.trans (hb2.mono HB0.out.size)⟩
def editP : List Nat := if 2 ≤ lv then numbP eg (k - 8) else []
set_option maxHeartbeats 2000000 in
theorem editK_any (hk : 0 ≤ k ∧ k ≤ 20) (w : World) (ht : Ten w) : Calls Tryz.prog 47 #[.agg (bdC k c sh ct m lv eg K)] w fun e w' => GivB w.heap.size w' e (editP k lv eg) ∧ Below w.heap.size w w' := by
  have HBy := Lib.hid (fun W => beyond_any k c sh ct m lv eg K W)
  have HNu := Lib.hid (fun W t => numbK_any k c sh ct m lv eg K (k - 8) W t)
  have HT := Lib.hid ht
  have HB0 := Lib.hid (bd_below k c sh ct m lv eg K w)
  have HBk := Lib.hid (bd_blk k c sh ct m lv eg K w)
  have hw1 : IntKind.i64.wrap (1 + k) = 1 + k := IntWalk.i64_in _ (by omega)
  have hw2 : IntKind.i64.wrap (1 + k - 9) = k - 8 := (IntWalk.i64_in _ (by omega)).trans (by omega)
  unfold editP
  unfold bdC at *
  clear ht hk
  by_cases hl : 2 ≤ lv
  · rw [if_pos hl]
    rw [decide_eq_true hl] at HBy
    clear hl
    generalize numbP eg (k - 8) = rl at *
    --#2
    go_enter Tryz.func47, Tryz.ntmps47
    go_wp2_with fail
    refine (HBy.out _).mono ?_
    rintro e w1 ⟨rfl, hb1⟩
    have hk1 := HBk.out.next hb1
    have q0 := hk1.cell 0; have q1 := hk1.cell 1; have q2 := hk1.cell 2; have q3 := hk1.cell 3; have q4 := hk1.cell 4; have q5 := hk1.cell 5; have q6 := hk1.cell 6; have q7 := hk1.cell 7
    have HB1 := Lib.hid (HB0.out.trans (hb1.mono HB0.out.size))
    clear hb1 HBk hk1
    go_wp2_with fail
    refine (HNu.out _ (HT.out.next HB1.out)).mono ?_
    rintro e w2 ⟨⟨A, cc, rfl, hr, hf⟩, hb2⟩
    go_wp2_with fail
    go_ret
    exact ⟨GivB.up ⟨A, cc, rfl, hr, hf⟩ HB1.out.size, HB1.out.trans (hb2.mono HB1.out.size)⟩
  · rw [if_neg hl]
    rw [decide_eq_false hl] at HBy
    clear hl hw1 hw2 HNu
    --#3
    go_enter Tryz.func47, Tryz.ntmps47
    go_wp2_with fail
    refine (HBy.out _).mono ?_
    rintro e w1 ⟨rfl, hb1⟩
    have HB1 := Lib.hid (HB0.out.trans (hb1.mono HB0.out.size))
    clear hb1
    go_wp2_with fail
    go_ret
    exact ⟨givB_nil _, HB1.out⟩
def cursP (j : Nat) (ckm : Bool) : List Nat := if ckm then singP eg (65 + j) else repL 4 ⟨#[UInt8.ofNat (65 + j)]⟩ ⟨#[]⟩ [] eg
set_option maxHeartbeats 4000000 in
theorem cursK_any (j : Nat) (hj : j < 4) (hm : m < 2 ^ 32) (w : World) (ht : Ten w) : Calls Tryz.prog 46 #[.agg (bdC (5 + j) c sh ct m lv eg K)] w fun e w' => GivB w.heap.size w' e (cursP eg j (hasN m 4)) ∧ Below w.heap.size w w' := by
  have HH := Lib.hid (fun W => has_any m hm 4 W)
  have HT := Lib.hid ht
  have HB0 := Lib.hid (bd_below (5 + j) c sh ct m lv eg K w)
  have HBk := Lib.hid (bd_blk (5 + j) c sh ct m lv eg K w)
  unfold cursP
  unfold bdC at *
  generalize hasN m 4 = b at *
  clear ht hm
  have HSi : Hid (∀ W, Ten W → Calls Tryz.prog 68 #[.bool eg, .int .u8 ((65 + j : Nat) : Int)] W fun e w' => Gives W w' e (singP eg (65 + j)) ∧ Below W.heap.size W w') := Lib.hid (fun W t => repSingle_any eg (65 + j) W t)
  have HCs := Lib.hid (fun W t => csi_any eg ⟨#[UInt8.ofNat (65 + j)]⟩ none 0 [] (by simp [maxLen]) (by simp) (size_le (n := 1) rfl (by decide)) W t (rints_nil W))
  generalize singP eg (65 + j) = rs at *
  rcases (show j = 0 ∨ j = 1 ∨ j = 2 ∨ j = 3 by omega) with rfl | rfl | rfl | rfl
  all_goals
    have HSn := Lib.hid (fun W t => HSi.out W t)
    have HCn := Lib.hid (fun W t => HCs.out W t)
    clear HSi HCs
    rcases b with _ | _
    · clear HSn
      generalize repL 4 _ _ _ eg = rl at *
      go_enter Tryz.func46, Tryz.ntmps46
      go_wp2_with fail
      refine (HH.out _).mono ?_
      rintro e w1 ⟨rfl, rfl⟩
      go_wp2_with fail
      refine (HCn.out _ (HT.out.next HB0.out)).mono ?_
      rintro e w2 ⟨⟨v, rfl, hv⟩, hb2⟩
      have HV := Lib.hid (givB_of ⟨v, rfl, hv⟩)
      clear hv
      go_wp2_with fail
      go_ret
      exact ⟨HV.out.up HB0.out.size, HB0.out.trans (hb2.mono HB0.out.size)⟩
    · clear HCn
      go_enter Tryz.func46, Tryz.ntmps46
      go_wp2_with fail
      refine (HH.out _).mono ?_
      rintro e w1 ⟨rfl, rfl⟩
      go_wp2_with fail
      refine (HSn.out _ (HT.out.next HB0.out)).mono ?_
      rintro e w2 ⟨⟨v, rfl, hv⟩, hb2⟩
      have HV := Lib.hid (givB_of ⟨v, rfl, hv⟩)
      clear hv
      go_wp2_with fail
      go_ret
      exact ⟨HV.out.up HB0.out.size, HB0.out.trans (hb2.mono HB0.out.size)⟩
/-- Is it one of the pad's? -/
def padQ : Bool := decide (c = 45) || decide (c = 44) || decide (c = 46) || decide (c = 13) || (decide (48 ≤ c) && decide (c ≤ 57))
set_option maxHeartbeats 2000000 in
theorem isPad_any (w : World) : Calls Tryz.prog 70 #[.int .u8 (c : Int)] w fun e w' => e = .returned (.bool (padQ c)) ∧ w = w' := by
  by_cases h1 : c = 45
  · subst h1
    go_enter Tryz.func70, Tryz.ntmps70
    go_wp2
    go_ret
    exact ⟨rfl, rfl⟩
  · by_cases h2 : c = 44
    · subst h2
      go_enter Tryz.func70, Tryz.ntmps70
      go_wp2
      go_ret
      exact ⟨rfl, rfl⟩
    · by_cases h3 : c = 46
      · subst h3
        go_enter Tryz.func70, Tryz.ntmps70
        go_wp2
        go_ret
        exact ⟨rfl, rfl⟩
      · by_cases h4 : c = 13
        · subst h4
          go_enter Tryz.func70, Tryz.ntmps70
          go_wp2
          go_ret
          exact ⟨rfl, rfl⟩
        · have hq : padQ c = (decide (48 ≤ c) && decide (c ≤ 57)) := by unfold padQ; simp [h1, h2, h3, h4]
          have e1 : ((c : Int) == 45) = false := by rw [beq_eq_false_iff_ne]; omega
          have e2 : ((c : Int) == 44) = false := by rw [beq_eq_false_iff_ne]; omega
          have e3 : ((c : Int) == 46) = false := by rw [beq_eq_false_iff_ne]; omega
          have e4 : ((c : Int) == 13) = false := by rw [beq_eq_false_iff_ne]; omega
          rw [hq]
          have hx : decide (48 ≤ c) = decide ((48 : Int) ≤ (c : Int)) := decide_eq_decide.2 (by omega)
          have hy : decide (c ≤ 57) = decide ((c : Int) ≤ 57) := decide_eq_decide.2 (by omega)
          rw [hx, hy]
          clear hx hy hq h1 h2 h3 h4
          by_cases g1 : (48 : Int) ≤ (c : Int)
          · rw [decide_eq_true g1, Bool.true_and]
            have m1 : ((48 : Int) ≤ (c : Int)) = True := eq_true g1
            generalize hcz : decide ((c : Int) ≤ 57) = z at *
            go_enter Tryz.func70, Tryz.ntmps70
            go_wp2
            go_ret
            exact ⟨rfl, rfl⟩
          · rw [decide_eq_false g1, Bool.false_and]
            have m1 : ((48 : Int) ≤ (c : Int)) = False := eq_false g1
            go_enter Tryz.func70, Tryz.ntmps70
            go_wp2
            go_ret
            exact ⟨rfl, rfl⟩
def padP (nkm lnm : Bool) : List Nat := if padQ c then (if nkm then singP eg (c + 64) else if c = 13 then enterP lnm else [c]) else []
set_option maxHeartbeats 4000000 in
theorem padK_any (hc8 : c < 256) (hm : m < 2 ^ 32) (w : World) (ht : Ten w) : Calls Tryz.prog 48 #[.agg (bdC k c sh ct m lv eg K)] w fun e w' => GivB w.heap.size w' e (padP c eg (hasN m 12) (hasN m 3)) ∧ Below w.heap.size w w' := by
  have HH := Lib.hid (fun W => has_any m hm 12 W)
  have HE := Lib.hid (fun W => enterK_any k c sh ct m lv eg K hm W)
  have HIp := Lib.hid (fun W => isPad_any c W)
  have HT := Lib.hid ht
  have HB0 := Lib.hid (bd_below k c sh ct m lv eg K w)
  have HBk := Lib.hid (bd_blk k c sh ct m lv eg K w)
  unfold padP
  have hpc : padQ c = true → c ≤ 57 := by unfold padQ; simp; omega
  unfold bdC at *
  generalize hasN m 12 = b at *
  generalize enterP (hasN m 3) = en at *
  have HSi : Hid (∀ W, Ten W → Calls Tryz.prog 68 #[.bool eg, .int .u8 ((c + 64 : Nat) : Int)] W fun e w' => Gives W w' e (singP eg (c + 64)) ∧ Below W.heap.size W w') := Lib.hid (fun W t => repSingle_any eg (c + 64) W t)
  clear ht hm
  rcases hq : padQ c with _ | _
  · rw [hq] at HIp
    clear hpc hq HH HE HSi
    rw [if_neg (by simp)]
    go_enter Tryz.func48, Tryz.ntmps48
    go_wp2_with (refine (HIp.out _).mono ?_; rintro e w1 ⟨rfl, rfl⟩)
    go_ret
    exact ⟨givB_nil _, HB0.out⟩
  · rw [hq] at HIp
    have hc57 := hpc hq
    have hw : IntKind.u8.wrap ((c : Int) + 64) = ((c + 64 : Nat) : Int) := (IntWalk.u8_in _ (by omega)).trans (by omega)
    clear hpc hq
    rw [if_pos rfl]
    rcases b with _ | _
    · by_cases h13 : c = 13
      · have e1 : ((c : Int) == 13) = true := by rw [beq_iff_eq]; omega
        rw [if_neg (by simp), if_pos h13]
        have q := HBk.out
        have q0 := q.cell 0; have q1 := q.cell 1; have q2 := q.cell 2; have q3 := q.cell 3; have q4 := q.cell 4; have q5 := q.cell 5; have q6 := q.cell 6; have q7 := q.cell 7
        clear h13 hw HSi q
        --#4
        go_enter Tryz.func48, Tryz.ntmps48
        go_wp2_with (first | (refine (HIp.out _).mono ?_; rintro e w1 ⟨rfl, rfl⟩) | (refine (HH.out _).mono ?_; rintro e w1 ⟨rfl, rfl⟩) | (refine (HE.out _).mono ?_; rintro e w1 ⟨⟨A, cc, rfl, hr, hf⟩, hb1⟩))
        go_ret
        exact ⟨GivB.up ⟨A, cc, rfl, hr, hf⟩ HB0.out.size, HB0.out.trans (hb1.mono HB0.out.size)⟩
      · have e1 : ((c : Int) == 13) = false := by rw [beq_eq_false_iff_ne]; omega
        rw [if_neg (by simp), if_neg h13]
        clear h13 hw HSi HE
        --#5
        go_enter Tryz.func48, Tryz.ntmps48
        go_wp2_with (first | (refine (HIp.out _).mono ?_; rintro e w1 ⟨rfl, rfl⟩) | (refine (HH.out _).mono ?_; rintro e w1 ⟨rfl, rfl⟩))
        go_ret
        exact ⟨givB_new _ [c] _ _ rfl _ _ _ (by simp) rfl (by first | omega | (simp; omega) | simp | exact HB2.out.size), HB0.out.alloc HB0.out.size _⟩
    · rw [if_pos rfl]
      generalize singP eg (c + 64) = rs at *
      clear HE
      --#6
      go_enter Tryz.func48, Tryz.ntmps48
      go_wp2_with fail
      refine (HIp.out _).mono ?_
      rintro e w1 ⟨rfl, rfl⟩
      go_wp2_with fail
      refine (HH.out _).mono ?_
      rintro e w1 ⟨rfl, rfl⟩
      go_wp2_with fail
      refine (HSi.out _ (HT.out.next HB0.out)).mono ?_
      rintro e w2 ⟨⟨v, rfl, hv⟩, hb2⟩
      have HV := Lib.hid (givB_of ⟨v, rfl, hv⟩)
      clear hv
      go_wp2_with fail
      go_ret
      exact ⟨HV.out.up HB0.out.size, HB0.out.trans (hb2.mono HB0.out.size)⟩
end

end Go.Proofs.YtigaaidacndeiaaGreatDoor

namespace Go.Proofs.YtigaaidacndeiaaGreatDoor

open Go Go.RowKit

/-- The world holds the numbers of F6 to F20. -/
def KNums (w : World) : Prop := 0 < w.heap.size ∧ ∀ j v, numCells[j]? = some v → w.cell? ⟨0, j, none⟩ = some v
theorem KNums.next {w w' : World} (h : KNums w) (hb : Below w.heap.size w w') : KNums w' :=
  ⟨Nat.lt_of_lt_of_le h.1 hb.size, fun j v hj => (hb.cell (p := ⟨0, j, none⟩) h.1).trans (h.2 j v hj)⟩
def numK (c : Nat) : Int := if c < 6 ∨ 21 ≤ c then 0 else nthU (c - 6)
set_option maxHeartbeats 1000000 in
theorem number_key (c : Nat) (hc : c < 256) (w : World) (h : KNums w) : Calls Tryz.prog 71 #[.int .i64 (c : Int)] w fun e w' => e = .returned (.int .i64 (numK c)) ∧ w = w' := by
  unfold numK
  by_cases h1 : c < 6
  · rw [if_pos (.inl h1)]
    have m1 : ((c : Int) < 6) = True := eq_true (by omega)
    clear h h1
    go_enter Tryz.func71, Tryz.ntmps71
    go_wp2
    go_ret
    exact ⟨rfl, rfl⟩
  · have m1 : ((c : Int) < 6) = False := eq_false (by omega)
    by_cases h2 : 21 ≤ c
    · rw [if_pos (.inr h2)]
      have m2 : ((21 : Int) ≤ (c : Int)) = True := eq_true (by omega)
      clear h h1 h2
      go_enter Tryz.func71, Tryz.ntmps71
      go_wp2
      go_ret
      exact ⟨rfl, rfl⟩
    · rw [if_neg (by omega)]
      have m2 : ((21 : Int) ≤ (c : Int)) = False := eq_false (by omega)
      obtain ⟨j, hj⟩ : ∃ j, j = c - 6 := ⟨_, rfl⟩
      have hw : IntKind.i64.wrap ((c : Int) - 6) = (j : Int) := (IntWalk.i64_in _ (by omega)).trans (by omega)
      have hj15 : j < 15 := by omega
      have q := h.2 j (.int .i64 (nthU j)) (by unfold numCells; simp [hj15])
      have m3 : (0 : Int) ≤ (j : Int) := by omega
      have m4 : (j : Int) < 15 := by omega
      rw [← hj]
      clear h h1 h2 hj
      generalize nthU j = z at *
      --#1
      go_enter Tryz.func71, Tryz.ntmps71
      go_wp2
      go_ret
      exact ⟨rfl, rfl⟩
theorem nb_len' (s : ByteArray) : (nb s).length = s.size := by unfold nb; rw [natB_len]
section

variable (k : Int) (c : Nat) (sh ct : Bool) (m : Nat) (lv : Int) (eg : Bool) (K : Nat)

def earlyP : List Nat := if c = 11 then [27] else if c = 12 then [8] else if c = 13 then [10] else []
set_option maxHeartbeats 2000000 in
theorem earlyK_any (w : World) : Calls Tryz.prog 72 #[.agg (bdC k c sh ct m lv eg K)] w fun e w' => GivB w.heap.size w' e (earlyP c) ∧ Below w.heap.size w w' := by
  have HE := Lib.hid (fun W => escK_any k c sh ct m lv eg K W)
  have HB0 := Lib.hid (bd_below k c sh ct m lv eg K w)
  have q := bd_blk k c sh ct m lv eg K w
  unfold earlyP
  by_cases h1 : c = 11
  · rw [if_pos h1]
    subst h1
    unfold bdC at *
    have q0 := q.cell 0; have q1 := q.cell 1; have q2 := q.cell 2; have q3 := q.cell 3; have q4 := q.cell 4; have q5 := q.cell 5; have q6 := q.cell 6; have q7 := q.cell 7
    clear q
    go_enter Tryz.func72, Tryz.ntmps72
    go_wp2_with (refine (HE.out _).mono ?_; rintro e w1 ⟨⟨A, cc, rfl, hr, hf⟩, hb1⟩)
    go_ret
    exact ⟨GivB.up ⟨A, cc, rfl, hr, hf⟩ HB0.out.size, HB0.out.trans (hb1.mono HB0.out.size)⟩
  · have e1 : ((c : Int) == 11) = false := by rw [beq_eq_false_iff_ne]; omega
    rw [if_neg h1]
    by_cases h2 : c = 12
    · rw [if_pos h2]
      subst h2
      unfold bdC at *
      clear q HE
      go_enter Tryz.func72, Tryz.ntmps72
      go_wp2
      go_ret
      exact ⟨givB_new _ [8] _ _ rfl _ _ _ (by simp) rfl (by first | omega | (simp; omega) | simp | exact HB2.out.size), HB0.out.alloc HB0.out.size _⟩
    · have e2 : ((c : Int) == 12) = false := by rw [beq_eq_false_iff_ne]; omega
      rw [if_neg h2]
      by_cases h3 : c = 13
      · rw [if_pos h3]
        subst h3
        unfold bdC at *
        clear q HE
        go_enter Tryz.func72, Tryz.ntmps72
        go_wp2
        go_ret
        exact ⟨givB_new _ [10] _ _ rfl _ _ _ (by simp) rfl (by first | omega | (simp; omega) | simp | exact HB2.out.size), HB0.out.alloc HB0.out.size _⟩
      · have e3 : ((c : Int) == 13) = false := by rw [beq_eq_false_iff_ne]; omega
        rw [if_neg h3]
        unfold bdC at *
        clear q HE h1 h2 h3
        go_enter Tryz.func72, Tryz.ntmps72
        go_wp2
        go_ret
        exact ⟨givB_nil _, HB0.out⟩
/-- A key's own text. -/
def textP (T : List ByteArray) (n : Int) : List Nat := if (getU T n).2 then nb (getU T n).1 else []
set_option maxRecDepth 100000 in
set_option maxHeartbeats 2000000 in
theorem textK_any (T : List ByteArray) (lk : Bool) (n : Int) (w : World) (hK : KeyB w K T lk) (hn : Nums w) : Calls Tryz.prog 73 #[.agg (bdC k c sh ct m lv eg K), .int .i64 n] w fun e w' => GivB w.heap.size w' e (textP T n) ∧ Below w.heap.size w w' := by
  have HB0 := Lib.hid (bd_below k c sh ct m lv eg K w)
  have HG := Lib.hid (uGet_any K T lk n _ (hK.next HB0.out) (hn.next HB0.out))
  unfold textP
  unfold bdC at *
  generalize getU T n = g at *
  obtain ⟨t, b⟩ := g
  simp only at HG ⊢
  clear hK hn
  rcases b with _ | _
  · rw [if_neg (by simp)]
    --#2
    go_enter Tryz.func73, Tryz.ntmps73
    go_wp2_with (refine HG.out.mono ?_; rintro e w1 ⟨rfl, rfl⟩)
    go_ret
    exact ⟨givB_nil _, HB0.out⟩
  · rw [if_pos rfl]
    --#3
    go_enter Tryz.func73, Tryz.ntmps73
    go_wp2_with fail
    refine HG.out.mono ?_
    rintro e w1 ⟨rfl, rfl⟩
    go_upto_region 6 with fail
    clear HG
    generalize (w.alloc (.cells #[.int .i64 k, .int .u8 (c : Int), .bool sh, .bool ct, .int .u32 (m : Int), .int .i64 lv, .bool eg, .pointer (some ⟨K, 0, none⟩)] 75)) = W1 at *
    obtain ⟨dc, hcv⟩ : ∃ dc, (convert 9 25 (.string t)).run Tryz.prog W1 = .ok (.slice (some ⟨W1.heap.size, 0, none⟩) t.size dc) (Lib.bytesWorld W1 5 t) := ⟨_, Lib.run_convert_string_bytes W1 9 25 5 t Tryz.underlying9 Tryz.underlying25 Tryz.underlying5⟩
    obtain ⟨hbw, hbr⟩ := str_world W1 t
    have HBw := Lib.hid (HB0.out.trans (hbw.mono HB0.out.size))
    have HBr := Lib.hid hbr
    clear hbw hbr
    generalize Lib.bytesWorld W1 5 t = W2 at *
    go_wp2_with fail
    go_ret
    exact ⟨⟨_, dc, by rw [nb_len']; rfl, HBr.out, fun ad e => by injection e with e; subst e; exact HB0.out.size⟩, HBw.out⟩
/-- What a function key sends. -/
def funcP (T : List ByteArray) : List Nat :=
  if 1 ≤ c ∧ c ≤ 4 then singP eg (79 + c) else if lv = 1 then earlyP c else if numK c = 0 ∨ lv < 2 then [] else if sh then textP T (numK c) else numbP eg (numK c)
set_option maxRecDepth 100000 in
set_option maxHeartbeats 4000000 in
theorem funcK_any (T : List ByteArray) (lk : Bool) (hc8 : c < 256) (w : World) (hK : KeyB w K T lk) (hn : Nums w) (hkn : KNums w) (ht : Ten w) : Calls Tryz.prog 49 #[.agg (bdC k c sh ct m lv eg K)] w fun e w' => GivB w.heap.size w' e (funcP c sh lv eg T) ∧ Below w.heap.size w w' := by
  have HB0 := Lib.hid (bd_below k c sh ct m lv eg K w)
  have q := bd_blk k c sh ct m lv eg K w
  have HBk := Lib.hid q
  have HNu := Lib.hid (number_key c hc8 _ (hkn.next HB0.out))
  have HEa := Lib.hid (fun W => earlyK_any k c sh ct m lv eg K W)
  have HTx := Lib.hid (fun W (hW : Below w.heap.size w W) => textK_any k c sh ct m lv eg K T lk (numK c) W (hK.next hW) (hn.next hW))
  have HNb := Lib.hid (fun W (hW : Below w.heap.size w W) => numbK_any k c sh ct m lv eg K (numK c) W (ht.next hW))
  have HBy := Lib.hid (fun W => beyond_any k c sh ct m lv eg K W)
  have HSi : Hid (∀ W, Below w.heap.size w W → Calls Tryz.prog 68 #[.bool eg, .int .u8 ((79 + c : Nat) : Int)] W fun e w' => Gives W w' e (singP eg (79 + c)) ∧ Below W.heap.size W w') := Lib.hid (fun W hW => repSingle_any eg (79 + c) W (ht.next hW))
  clear hK hn hkn ht
  obtain ⟨R, hR⟩ : ∃ R, R = funcP c sh lv eg T := ⟨_, rfl⟩
  rw [← hR]
  unfold funcP at hR
  generalize singP eg (79 + c) = s1 at *
  generalize earlyP c = s2 at *
  generalize textP T (numK c) = s3 at *
  generalize numbP eg (numK c) = s4 at *
  generalize numK c = n at *
  unfold bdC at *
  have q0 := q.cell 0; have q1 := q.cell 1; have q2 := q.cell 2; have q3 := q.cell 3; have q4 := q.cell 4; have q5 := q.cell 5; have q6 := q.cell 6; have q7 := q.cell 7
  clear q
  generalize hW1 : (w.alloc (.cells #[.int .i64 k, .int .u8 (c : Int), .bool sh, .bool ct, .int .u32 (m : Int), .int .i64 lv, .bool eg, .pointer (some ⟨K, 0, none⟩)] 75)) = W1 at *
  have hci : IntKind.i64.wrap (c : Int) = (c : Int) := IntWalk.i64_in _ (by omega)
  --#4
  go_enter Tryz.func49, Tryz.ntmps49
  go_upto_region 1 with fail
  try rw [hW1]
  clear hW1
  go_wp2_with fail
  refine HNu.out.mono ?_
  rintro e w1 ⟨rfl, rfl⟩
  clear HNu hci
  by_cases h1 : 1 ≤ c ∧ c ≤ 4
  · have HR : Hid (R = s1) := Lib.hid (by rw [hR, if_pos h1])
    have m1 : ((1 : Int) ≤ (c : Int)) = True := eq_true (by omega)
    have m2 : ((c : Int) ≤ 4) = True := eq_true (by omega)
    have hw1 : IntKind.u8.wrap (80 + (c : Int)) = ((80 + c : Nat) : Int) := (IntWalk.u8_in _ (by omega)).trans (by omega)
    have hw2 : IntKind.u8.wrap (((80 + c : Nat) : Int) - 1) = ((79 + c : Nat) : Int) := (IntWalk.u8_in _ (by omega)).trans (by omega)
    clear h1 hR HTx HNb HEa HBy
    generalize ((80 + c : Nat) : Int) = z80 at *
    generalize ((79 + c : Nat) : Int) = z79 at *
    --#5
    go_wp2_with fail
    refine (HSi.out _ HB0.out).mono ?_
    rintro e w2 ⟨⟨v, rfl, hv⟩, hb2⟩
    have HV := Lib.hid (givB_of ⟨v, rfl, hv⟩)
    clear hv
    go_wp2_with fail
    go_ret
    rw [HR.out]
    exact ⟨HV.out.up HB0.out.size, HB0.out.trans (hb2.mono HB0.out.size)⟩
  · have HRa : Hid (R = if lv = 1 then s2 else if n = 0 ∨ lv < 2 then [] else if sh then s3 else s4) := Lib.hid (by rw [hR, if_neg h1])
    have m1 : (((1 : Int) ≤ (c : Int)) = True ∧ ((c : Int) ≤ 4) = False) ∨ ((1 : Int) ≤ (c : Int)) = False := by
      by_cases h : 1 ≤ c
      · exact .inl ⟨eq_true (by omega), eq_false (by omega)⟩
      · exact .inr (eq_false (by omega))
    clear h1 HSi hR
    --#6
    rcases m1 with ⟨m1, m2⟩ | m1
    all_goals
      by_cases h2 : lv = 1
      · have HR : Hid (R = s2) := Lib.hid (by rw [HRa.out, if_pos h2])
        have e2 : (lv == 1) = true := by simpa using h2
        clear h2 HRa HTx HNb HBy
        --#7
        go_wp2_with (refine (HEa.out _).mono ?_; rintro e w2 ⟨⟨A, cc, rfl, hr, hf⟩, hb2⟩)
        go_ret
        rw [HR.out]
        exact ⟨GivB.up ⟨A, cc, rfl, hr, hf⟩ HB0.out.size, HB0.out.trans (hb2.mono HB0.out.size)⟩
      · have e2 : (lv == 1) = false := by simpa using h2
        have HRb : Hid (R = if n = 0 ∨ lv < 2 then [] else if sh then s3 else s4) := Lib.hid (by rw [HRa.out, if_neg h2])
        clear h2 HRa HEa
        by_cases h3 : n = 0
        · have HR : Hid (R = []) := Lib.hid (by rw [HRb.out, if_pos (.inl h3)])
          have e3 : (n == 0) = true := by simpa using h3
          clear h3 HRb HTx HNb HBy
          --#8
          go_wp2_with fail
          go_ret
          rw [HR.out]
          exact ⟨givB_nil _, HB0.out⟩
        · have e3 : (n == 0) = false := by simpa using h3
          by_cases h4 : 2 ≤ lv
          · have HRc : Hid (R = if sh then s3 else s4) := Lib.hid (by rw [HRb.out, if_neg (by omega)])
            rw [decide_eq_true h4] at HBy
            clear h3 h4 HRb
            --#9
            go_wp2_with fail
            refine (HBy.out _).mono ?_
            rintro e w2 ⟨rfl, hb2⟩
            have hk2 := HBk.out.next hb2
            have q0 := hk2.cell 0; have q1 := hk2.cell 1; have q2 := hk2.cell 2; have q3 := hk2.cell 3; have q4 := hk2.cell 4; have q5 := hk2.cell 5; have q6 := hk2.cell 6; have q7 := hk2.cell 7
            have HB2 := Lib.hid (HB0.out.trans (hb2.mono HB0.out.size))
            clear hb2 hk2
            rcases sh with _ | _
            · have HR : Hid (R = s4) := HRc
              clear HRc HTx
              go_wp2_with fail
              refine (HNb.out _ HB2.out).mono ?_
              rintro e w3 ⟨⟨A, cc, rfl, hr, hf⟩, hb3⟩
              go_wp2_with fail
              go_ret
              rw [HR.out]
              exact ⟨GivB.up ⟨A, cc, rfl, hr, hf⟩ HB2.out.size, HB2.out.trans (hb3.mono HB2.out.size)⟩
            · have HR : Hid (R = s3) := HRc
              clear HRc HNb
              go_wp2_with fail
              refine (HTx.out _ HB2.out).mono ?_
              rintro e w3 ⟨⟨A, cc, rfl, hr, hf⟩, hb3⟩
              go_wp2_with fail
              go_ret
              rw [HR.out]
              exact ⟨GivB.up ⟨A, cc, rfl, hr, hf⟩ HB2.out.size, HB2.out.trans (hb3.mono HB2.out.size)⟩
          · have HR : Hid (R = []) := Lib.hid (by rw [HRb.out, if_pos (.inr (by omega))])
            rw [decide_eq_false h4] at HBy
            clear h3 h4 HRb HTx HNb
            --#10
            go_wp2_with fail
            refine (HBy.out _).mono ?_
            rintro e w2 ⟨rfl, hb2⟩
            have hk2 := HBk.out.next hb2
            have q0 := hk2.cell 0; have q1 := hk2.cell 1; have q2 := hk2.cell 2; have q3 := hk2.cell 3; have q4 := hk2.cell 4; have q5 := hk2.cell 5; have q6 := hk2.cell 6; have q7 := hk2.cell 7
            have HB2 := Lib.hid (HB0.out.trans (hb2.mono HB0.out.size))
            clear hb2 hk2
            go_wp2_with fail
            go_ret
            rw [HR.out]
            exact ⟨givB_nil _, HB2.out⟩
set_option maxRecDepth 100000 in
set_option maxHeartbeats 4000000 in
theorem charK_any (hc8 : c < 256) (w : World) : Calls Tryz.prog 41 #[.agg (bdC k c sh false m lv eg K)] w fun e w' => GivB w.heap.size w' e (charP c false lv) ∧ Below w.heap.size w w' := by
  have HB0 := Lib.hid (bd_below k c sh false m lv eg K w)
  have q := bd_blk k c sh false m lv eg K w
  have HBy := Lib.hid (fun W => beyond_any k c sh false m lv eg K W)
  obtain ⟨R, hR⟩ : ∃ R, R = charP c false lv := ⟨_, rfl⟩
  rw [← hR]
  have HR0 : Hid (R = if (decide (32 ≤ c) && decide (c ≤ 126)) || (decide (160 ≤ c) && decide (2 ≤ lv)) then [c] else []) := Lib.hid (by rw [hR]; unfold charP; simp only [Bool.false_and, Bool.false_eq_true, if_false])
  unfold bdC at *
  have q0 := q.cell 0; have q1 := q.cell 1; have q2 := q.cell 2; have q3 := q.cell 3; have q4 := q.cell 4; have q5 := q.cell 5; have q6 := q.cell 6; have q7 := q.cell 7
  clear q hR
  by_cases h1 : 32 ≤ c ∧ c ≤ 126
  · have m1 : ((32 : Int) ≤ (c : Int)) = True := eq_true (by omega)
    have m2 : ((c : Int) ≤ 126) = True := eq_true (by omega)
    have HR : Hid (R = [c]) := Lib.hid (by rw [HR0.out, decide_eq_true h1.1, decide_eq_true h1.2]; rfl)
    clear h1 HR0 HBy
    --#11
    go_enter Tryz.func41, Tryz.ntmps41
    go_wp2
    go_ret
    rw [HR.out]
    exact ⟨givB_new _ [c] _ _ rfl _ _ _ (by simp) rfl (by first | omega | (simp; omega) | simp | exact HB2.out.size), HB0.out.alloc HB0.out.size _⟩
  · have m1 : (((32 : Int) ≤ (c : Int)) = True ∧ ((c : Int) ≤ 126) = False) ∨ ((32 : Int) ≤ (c : Int)) = False := by
      by_cases h : 32 ≤ c
      · exact .inl ⟨eq_true (by omega), eq_false (by omega)⟩
      · exact .inr (eq_false (by omega))
    have hb : (decide (32 ≤ c) && decide (c ≤ 126)) = false := by simp; omega
    have HR1 : Hid (R = if decide (160 ≤ c) && decide (2 ≤ lv) then [c] else []) := Lib.hid (by rw [HR0.out, hb, Bool.false_or])
    clear HR0 hb
    by_cases h2 : 160 ≤ c
    · have m3 : ((160 : Int) ≤ (c : Int)) = True := eq_true (by omega)
      have HR2 : Hid (R = if decide (2 ≤ lv) then [c] else []) := Lib.hid (by rw [HR1.out, decide_eq_true h2, Bool.true_and])
      clear h1 h2 HR1
      generalize decide (2 ≤ lv) = b at *
      rcases m1 with ⟨m1, m2⟩ | m1
      all_goals
        rcases b with _ | _
        all_goals
          go_enter Tryz.func41, Tryz.ntmps41
          go_wp2_with fail
          refine (HBy.out _).mono ?_
          rintro e w2 ⟨rfl, hb2⟩
          have HB2 := Lib.hid (HB0.out.trans (hb2.mono HB0.out.size))
          clear hb2
          go_wp2_with fail
          go_ret
          rw [HR2.out]
          first
            | exact ⟨givB_nil _, HB2.out⟩
            | exact ⟨givB_new _ [c] _ _ rfl _ _ _ (by simp) rfl (by first | omega | (simp; omega) | simp | exact HB2.out.size), HB2.out.alloc HB2.out.size _⟩
    · have m3 : ((160 : Int) ≤ (c : Int)) = False := eq_false (by omega)
      have HR : Hid (R = []) := Lib.hid (by rw [HR1.out, decide_eq_false h2]; rfl)
      clear h1 h2 HR1 HBy
      rcases m1 with ⟨m1, m2⟩ | m1
      all_goals
        go_enter Tryz.func41, Tryz.ntmps41
        go_wp2
        go_ret
        rw [HR.out]
        exact ⟨givB_nil _, HB0.out⟩
end

end Go.Proofs.YtigaaidacndeiaaGreatDoor

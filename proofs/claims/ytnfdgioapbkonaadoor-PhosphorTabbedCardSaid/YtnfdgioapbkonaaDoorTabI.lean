/-
  The walks of stops: those to the left of a column, from the back.
-/
import Derived.Test.YtnfdgioapbkonaaDoorTabG
import Derived.RangeFuncFrom
import Derived.RangeFuncNested
import Derived.RangeFuncBound
import Derived.RangeFuncCalls
import Derived.RangeFuncLeaves
import Derived.Shelf.Abstract
import Derived.Shelf.RegionOpen
import Derived.OwnWalkIn
import Derived.TacticsInMore
import Derived.LoopNIn
import Derived.LoopIn
namespace Go.Proofs.YtnfdgioapbkonaaDoor

open Go Go.RowKit Go.Shelf
attribute [local go_sem] Oper.semAt_some

/-- The stops of the first a columns that lie to the left of a column, the last one first. -/
def leftL (h : Nat → Bool) (col : Int) : Nat → List Nat
  | 0 => []
  | a + 1 => if decide ((a : Int) < col) && h a then a :: leftL h col a else leftL h col a
theorem leftL_succ (h : Nat → Bool) (col : Int) (a : Nat) : leftL h col (a + 1) = if decide ((a : Int) < col) && h a then a :: leftL h col a else leftL h col a := rfl
theorem leftL_len (h : Nat → Bool) (col : Int) (a : Nat) : (leftL h col a).length ≤ a := by
  induction a with
  | zero => simp [leftL]
  | succ a ih =>
    rw [leftL_succ]
    split
    · rw [List.length_cons]; omega
    · omega
theorem leftL_lt (h : Nat → Bool) (col : Int) : ∀ a x, x ∈ leftL h col a → x < a ∧ (x : Int) < col ∧ h x = true := by
  intro a
  induction a with
  | zero => intro x hx; simp [leftL] at hx
  | succ a ih =>
    intro x hx
    rw [leftL_succ] at hx
    split at hx
    · rename_i hc
      simp at hc
      rcases List.mem_cons.1 hx with rfl | hx
      · exact ⟨by omega, hc.1, hc.2⟩
      · have := ih x hx; exact ⟨by omega, this.2⟩
    · have := ih x hx; exact ⟨by omega, this.2⟩
theorem leftL_cut (h : Nat → Bool) (col : Int) (n m : Nat) (hm : (m : Int) = min (max col 0) n) : leftL h col n = leftL h col m := by
  induction n generalizing m with
  | zero => obtain rfl : m = 0 := by omega
            rfl
  | succ n ih =>
    by_cases e : m = n + 1
    · rw [e]
    · have hc : decide ((n : Int) < col) = false := by simp; omega
      rw [leftL_succ, hc, Bool.false_and, if_neg (by simp)]
      exact ih m (by omega)

theorem leftOf_any (B : Nat) (col : Int) (w : World) :
    Calls Tryd.prog 33 #[.pointer (some ⟨B, 0, none⟩), .int .i64 col] w fun e w' => e = .returned (.func (.func 41) #[] #[.pointer (some ⟨w.heap.size + 1, 0, none⟩), .pointer (some ⟨w.heap.size, 0, none⟩)]) ∧ (w.alloc (.cells #[.pointer (some ⟨B, 0, none⟩)] 24)).alloc (.cells #[.int .i64 col] 3) = w' := by
  have hmf : ∀ fn first cap W, (Instr.makeFunc fn first cap).run Tryd.prog W = .ok (.func fn first cap) W := fun _ _ _ _ => rfl
  go_enter Tryd.func33, Tryd.ntmps33
  go_wp2_with fail
  go_ret
  exact ⟨rfl, rfl⟩

set_option maxRecDepth 100000 in
set_option maxHeartbeats 4000000 in
theorem leftOf1_in (f : Nat) (hf : 1 ≤ f) (l bc bs B n : Nat) (h : Nat → Bool) (col : Int) (Kp : World → World → Prop) (R : World → Prop) (J Jx : List Nat → World → Prop)
    (hRs : ∀ A, R A → A.cell? ⟨bs, 0, none⟩ = some (.pointer (some ⟨B, 0, none⟩)) ∧ Stp A B n h) (hRb : ∀ A A', R A → Below A.heap.size A A' → R A') (hRk : ∀ A A', R A → Kp A A' → R A')
    (hY : ∀ pre x W, J pre W → pre.length < (leftL h col n).length → YieldAt Fence.wide (f - 1) Tryd.prog l #[.int .i64 (x : Nat)] W fun e W' =>
      (e = .returned (.bool true) ∧ J (pre ++ [x]) W' ∧ Kp W W') ∨ (e = .returned (.bool false) ∧ Jx (pre ++ [x]) W'))
    (W : World) (hc : W.cell? ⟨bc, 0, none⟩ = some (.int .i64 col)) (hR0 : R W) (hJ : AbidesFrom W.heap.size J) (h0 : J [] W) :
    CallsIn Fence.wide f Tryd.prog 41 #[.func (.yield l) #[] #[], .pointer (some ⟨bc, 0, none⟩), .pointer (some ⟨bs, 0, none⟩)] W fun e W' => (∃ v, e = .returned v) ∧
      ((∃ ys, ys = leftL h col n ∧ J ys W') ∨ (∃ pre, pre <+: leftL h col n ∧ Jx pre W')) := by
  obtain ⟨hs, hS⟩ := hRs W hR0
  obtain ⟨c0, hn⟩ := hS.cols
  refine callsIn_of_wp Tryd.func41 rfl trivial ?_ rfl
  simp only [Tryd.ntmps41, List.size_toArray, List.length_cons, List.length_nil, Nat.reduceAdd, Nat.reduceSub, Array.replicate_succ, Array.replicate_zero, List.push_toArray, List.append_toArray, List.nil_append, List.cons_append]
  gi_wp2
  gi_region
  obtain ⟨m, hm⟩ : ∃ m : Nat, (if (n : Int) < if col < 0 then 0 else col then (n : Int) else if col < 0 then 0 else col) = m := ⟨(if (n : Int) < if col < 0 then 0 else col then (n : Int) else if col < 0 then 0 else col).toNat, by split <;> (try split) <;> omega⟩
  have hmn : (m : Int) = min (max col 0) n := by rw [← hm]; split <;> (try split) <;> omega
  have HCut := Lib.hid (leftL_cut h col n m hmn)
  have HMc : Hid (∀ a : Nat, a < m → (a : Int) < col) := Lib.hid (fun a ha => by omega)
  have hmn2 : m ≤ n := by omega
  rw [hm]
  generalize (if col < 0 then 0 else col) = c6 at *
  have HY := Lib.hid hY
  have HRs := Lib.hid hRs; have HRb := Lib.hid hRb; have HRk := Lib.hid hRk
  have HR0 := Lib.hid (hRb _ _ hR0 ((Below.refl _ W).drew))
  have HJ := Lib.hid hJ
  have H0 := Lib.hid (hJ [] W W.drew none h0 (grown_of_below ((Below.refl _ W).drew)) (fun r e => by cases e))
  clear hm hmn hY hS hJ h0 hc c0 hs hRs hRb hRk hR0
  gi_wp2
  gi_loopw [4] (fun i wr => ∃ (pre : List Nat) (a : Nat) (j : Int), a ≤ m ∧ j = a - 1 ∧ i = .int .i64 j ∧ leftL h col n = pre ++ leftL h col a ∧ J pre wr ∧ R wr) (fun i _ => (intOf i + 1).toNat)
  case atStart => exact ⟨[], m, _, Nat.le_refl _, rfl, rfl, by rw [HCut.out]; rfl, H0.out, HR0.out⟩
  case round =>
    obtain ⟨pre, a, j, ha, hj, rfl, hx, hJp, hr⟩ := hrel
    have HR := Lib.hid hr; have HJp := Lib.hid hJp; have HX := Lib.hid hx
    obtain ⟨hs1, hSr⟩ := HRs.out wr hr
    have HSr := Lib.hid hSr
    clear hr hJp hx hSr
    rcases a with _ | a
    · obtain rfl : j = -1 := by omega
      clear hj
      gi_wp2
      go_end0
      exact ⟨⟨_, rfl⟩, .inl ⟨pre, by have := HX.out; simp [leftL] at this; exact this.symm, HJp.out⟩⟩
    · obtain rfl : j = a := by omega
      clear hj
      have HH := Lib.hid (fun W s' => (callsIn_wide (n := f - 1)).2 (has_yes B n h a (by omega) W s'))
      rcases hh : h a with _ | _
      · rw [hh] at HH
        have HX2 : Hid (leftL h col n = pre ++ leftL h col a) := Lib.hid (by rw [HX.out, leftL_succ, hh, Bool.and_false, if_neg (by simp)])
        clear hh
        gi_wp2_with (refine ⟨trivial, ?_⟩; gi_at_call 26; refine (HH.out _ HSr.out).mono ?_; rintro e w1 ⟨rfl, hb1⟩; have HB1 := Lib.hid hb1; clear hb1)
        refine ⟨fun _ h => (by cases h), ?_⟩
        have HJ1 := Lib.hid (HJ.out pre wr w1 none HJp.out (grown_of_below HB1.out) (fun r e => by cases e))
        have HBt := Lib.hid (HRb.out _ _ HR.out HB1.out)
        clear hs1 HB1
        gi_wp2
        go_roundw
        case rel => exact ⟨pre, a, _, by omega, rfl, rfl, HX2.out, HJ1.out, HBt.out⟩
        case measure => simp [intOf]
      · rw [hh] at HH
        have HX2 : Hid (leftL h col n = (pre ++ [a]) ++ leftL h col a) := Lib.hid (by
          rw [HX.out, leftL_succ, hh, Bool.and_true, if_pos (by simpa using HMc.out a (by omega))]
          simp)
        clear hh
        have hlen : pre.length < (leftL h col n).length := by rw [HX2.out]; simp
        gi_wp2_with (refine ⟨trivial, ?_⟩; gi_at_call 26; refine (HH.out _ HSr.out).mono ?_; rintro e w1 ⟨rfl, hb1⟩; obtain ⟨fn, tmps, assign, body, hy, hR⟩ := HY.out pre a w1 (HJ.out pre wr w1 none HJp.out (grown_of_below hb1) (fun r e => by cases e)) hlen; have HBt := Lib.hid (HRb.out _ _ HR.out hb1); clear hb1 hs1)
        refine hR.mono ?_
        rintro e W3 (⟨rfl, hJ3, hk3⟩ | ⟨rfl, hJx3⟩)
        · have HJ3 := Lib.hid hJ3
          have HB3 := Lib.hid (HRk.out _ _ HBt.out hk3)
          clear hJ3 hk3 hy
          gi_wp2
          go_roundw
          case rel => exact ⟨pre ++ [a], a, _, by omega, rfl, rfl, HX2.out, HJ3.out, HB3.out⟩
          case measure => simp [intOf]
        · have HJ3 := Lib.hid hJx3
          clear hJx3 hy
          gi_wp2
          refine bodyPost_ret (results_none rfl _ _ _) rfl ?_
          exact ⟨⟨_, rfl⟩, .inr ⟨pre ++ [a], ⟨leftL h col a, HX2.out.symm⟩, HJ3.out⟩⟩
end Go.Proofs.YtnfdgioapbkonaaDoor

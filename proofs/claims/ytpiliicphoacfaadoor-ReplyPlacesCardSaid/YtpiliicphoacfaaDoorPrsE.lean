/-
  A parser's small calls: what begins, what holds a byte, an Inter more; the small questions.
-/
import Derived.Test.YtpiliicphoacfaaDoorPrsD
namespace Go.Proofs.YtpiliicphoacfaaDoor

open Go Go.RowKit

set_option maxHeartbeats 4000000 in
theorem goOn_any (g : Nat) (s : Ps) (k p : Int) (w : World) (h : PsB w g s) :
    Calls Tryd.prog 87 #[.pointer (some ⟨g, 0, none⟩), .int .i64 k, .int .i64 p] w fun e w' => e = .returned (.tuple #[]) ∧ PsB w' g {s with kd := k, pl := p} ∧ w.grownBy w' (some g) := by
  have q0 := h.at_ 0 _ rfl
  have q1 := h.at_ 1 _ rfl
  have f0 := h.blk.frozen 0
  have f1 := h.blk.frozen 1
  have H := Lib.hid h
  clear h
  go_enter Tryd.func87, Tryd.ntmps87
  go_wp2_with fail
  go_end0
  have h1 := H.out.put (t := {s with kd := k}) 1 (.int .i64 k) rfl ⟨H.out.ok.fs, H.out.ok.ds, H.out.ok.it⟩
  exact ⟨rfl, h1.put (t := {s with kd := k, pl := p}) 0 (.int .i64 p) rfl ⟨H.out.ok.fs, H.out.ok.ds, H.out.ok.it⟩, grown_trans grown_set grown_set⟩
def begP : Ps := {ps0 with kd := 3, pl := 1}
set_option maxHeartbeats 4000000 in
theorem begin_any (g : Nat) (s : Ps) (w : World) (h : PsB w g s) :
    Calls Tryd.prog 74 #[.pointer (some ⟨g, 0, none⟩)] w fun e w' => e = .returned (.tuple #[]) ∧ PsB w' g begP ∧ w.grownBy w' (some g) := by
  have H := Lib.hid h
  have HR := Lib.hid (fun W h => reset_any g s W h)
  have HG := Lib.hid (fun W h => goOn_any g ps0 3 1 W h)
  clear h
  go_enter Tryd.func74, Tryd.ntmps74
  go_wp2_with fail
  refine (HR.out _ H.out).mono ?_
  rintro e w1 ⟨rfl, h1, g1⟩
  have H1 := Lib.hid h1; have G1 := Lib.hid g1
  clear h1 g1 H HR
  go_wp2_with fail
  refine (HG.out _ H1.out).mono ?_
  rintro e w2 ⟨rfl, h2, g2⟩
  have H2 := Lib.hid h2; have G2 := Lib.hid (grown_trans G1.out g2)
  clear h2 g2 H1 G1 HG
  go_wp2_with fail
  go_end0
  exact ⟨rfl, H2.out, G2.out⟩
/-! What a byte is. -/
def pInter (c : Nat) : Bool := decide (32 ≤ c) && decide (c ≤ 47)
def pMark (c : Nat) : Bool := decide (60 ≤ c) && decide (c ≤ 63)
def pCode (c : Nat) : Bool := decide (64 ≤ c)
def pData (c : Nat) : Bool := (decide (8 ≤ c) && decide (c ≤ 13)) || decide (32 ≤ c)
theorem dI (a b : Nat) : decide ((a : Int) ≤ (b : Int)) = decide (a ≤ b) := by simp
set_option maxHeartbeats 1000000 in
theorem pInter_any (c : Nat) (w : World) : Calls Tryd.prog 88 #[.int .u8 (c : Int)] w fun e w' => e = .returned (.bool (pInter c)) ∧ w' = w := by
  unfold pInter
  have e1 : decide ((32 : Int) ≤ (c : Int)) = decide (32 ≤ c) := dI 32 c
  have e2 : decide ((c : Int) ≤ (47 : Int)) = decide (c ≤ 47) := dI c 47
  generalize decide (32 ≤ c) = b1 at *
  generalize decide (c ≤ 47) = b2 at *
  cases b1 <;> cases b2
  all_goals
    go_enter Tryd.func88, Tryd.ntmps88
    go_wp2_with fail
    go_ret
    exact ⟨rfl, rfl⟩
set_option maxHeartbeats 1000000 in
theorem pMark_any (c : Nat) (w : World) : Calls Tryd.prog 91 #[.int .u8 (c : Int)] w fun e w' => e = .returned (.bool (pMark c)) ∧ w' = w := by
  unfold pMark
  have e1 : decide ((60 : Int) ≤ (c : Int)) = decide (60 ≤ c) := dI 60 c
  have e2 : decide ((c : Int) ≤ (63 : Int)) = decide (c ≤ 63) := dI c 63
  generalize decide (60 ≤ c) = b1 at *
  generalize decide (c ≤ 63) = b2 at *
  cases b1 <;> cases b2
  all_goals
    go_enter Tryd.func91, Tryd.ntmps91
    go_wp2_with fail
    go_ret
    exact ⟨rfl, rfl⟩
set_option maxHeartbeats 1000000 in
theorem pCode_any (c : Nat) (w : World) : Calls Tryd.prog 93 #[.int .u8 (c : Int)] w fun e w' => e = .returned (.bool (pCode c)) ∧ w' = w := by
  unfold pCode
  have e1 : decide ((64 : Int) ≤ (c : Int)) = decide (64 ≤ c) := dI 64 c
  generalize decide (64 ≤ c) = b1 at *
  go_enter Tryd.func93, Tryd.ntmps93
  go_wp2_with fail
  go_ret
  exact ⟨by simp, rfl⟩
set_option maxHeartbeats 1000000 in
theorem pData_any (c : Nat) (w : World) : Calls Tryd.prog 95 #[.int .u8 (c : Int)] w fun e w' => e = .returned (.bool (pData c)) ∧ w' = w := by
  unfold pData
  have e1 : decide ((8 : Int) ≤ (c : Int)) = decide (8 ≤ c) := dI 8 c
  have e2 : decide ((c : Int) ≤ (13 : Int)) = decide (c ≤ 13) := dI c 13
  have e3 : decide ((32 : Int) ≤ (c : Int)) = decide (32 ≤ c) := dI 32 c
  generalize decide (8 ≤ c) = b1 at *
  generalize decide (c ≤ 13) = b2 at *
  generalize decide (32 ≤ c) = b3 at *
  cases b1 <;> cases b2 <;> cases b3
  all_goals
    go_enter Tryd.func95, Tryd.ntmps95
    go_wp2_with fail
    go_ret
    exact ⟨rfl, rfl⟩
end Go.Proofs.YtpiliicphoacfaaDoor

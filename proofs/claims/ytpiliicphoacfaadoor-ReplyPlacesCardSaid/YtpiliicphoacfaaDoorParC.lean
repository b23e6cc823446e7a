/-
  The walks of what collects numbers byte by byte.
-/
import Derived.Test.YtpiliicphoacfaaDoorParB
namespace Go.Proofs.YtpiliicphoacfaaDoor

open Go.RowKit

theorem grown_set {w : World} {g o : Nat} {v : Value} : w.grownBy (w.setCell ⟨g, o, none⟩ v) (some g) :=
  ⟨rfl, rfl, rfl, by simp [World.setCell], fun k _ hk => Below.heap_setCell w _ v k (by simpa using hk)⟩
theorem grown_drew {w w' : World} {r : Option Nat} (h : w.grownBy w' r) : w.grownBy w'.drew r := ⟨h.os, h.tape, h.output, h.size, h.block⟩
theorem grown_trans {a b c : World} {r : Option Nat} (h : a.grownBy b r) (h' : b.grownBy c r) : a.grownBy c r :=
  ⟨h'.os.trans h.os, h'.tape.trans h.tape, h'.output.trans h.output, Nat.le_trans h.size h'.size, fun k hk hn => (h'.block k (Nat.lt_of_lt_of_le hk h.size) hn).trans (h.block k hk hn)⟩
/-- One digit more. -/
def digF (fs : List Int) (d : Int) : List Int := if fs = [] then [sat1 0 d] else fs.dropLast ++ [sat1 (fs.getLastD 0) d]

set_option maxHeartbeats 1000000 in
theorem digit_any (g : Nat) (fs : List Int) (d : Int) (hd : 0 ≤ d ∧ d ≤ 9) (hf : InF fs) (w : World) (h : Acc w g fs) :
    Calls Tryd.prog 103 #[.pointer (some ⟨g, 0, none⟩), .int .i64 d] w fun e w' => e = .returned (.tuple #[]) ∧ Acc w' g (digF fs d) ∧ w.grownBy w' (some g) := by
  obtain ⟨d0, d1⟩ := hd
  have hb := h.begun
  have f30 := Blk.frozen h 30
  rcases fs.eq_nil_or_concat with rfl | ⟨gs, x, rfl⟩
  · have c0 : w.cell? ⟨g, 0, none⟩ = some (.int .i64 0) := (Blk.cell h 0).trans rfl
    have f0 := Blk.frozen h 0
    have H := Lib.hid h
    change w.cell? ⟨g, 30, none⟩ = some (.int .i64 0) at hb
    clear h
    go_enter Tryd.func103, Tryd.ntmps103
    go_wp2
    go_region
    all_goals
      go_end0
      refine ⟨rfl, ?_, grown_drew (grown_trans grown_set grown_set)⟩
      have h1 := (Blk.set_ H.out 30 (.int .i64 1)).set_ 0 (.int .i64 d)
      rw [acc_list, set_list, set_list] at h1
      have e : sat1 0 d = d := by unfold sat1; omega
      have := acc_first_digit d
      change Blk _ g _ ((((padF [] ++ [((0 : Nat) : Int)]).set 30 1).set 0 d).map (Value.int .i64)).toArray at h1
      rw [this] at h1
      unfold Acc
      rw [show digF [] d = [d] from by simp [digF, e], acc_list]
      exact h1
  · obtain ⟨x0, x1⟩ := hf x (by simp)
    rw [List.concat_eq_append] at h hb
    by_cases hk : gs.length < 30
    · have e31 : ((min (gs ++ [x]).length 31 : Nat) : Int) = (gs.length : Int) + 1 := by simp; omega
      rw [e31] at hb
      have hx : (padF (gs ++ [x]))[gs.length]? = some x := by
        unfold padF
        rw [List.take_of_length_le (by simp; omega), List.getElem?_append_left (by simp), List.getElem?_append_right (by omega)]
        simp
      have c0 : w.cell? ⟨g, gs.length, none⟩ = some (.int .i64 x) := (Blk.cell h _).trans (by rw [acc_at _ _ hk, hx]; rfl)
      have f0 := Blk.frozen h gs.length
      have H := Lib.hid h
      have hE := acc_digit gs x (sat1 x d) hk
      have HE := Lib.hid hE
      clear h hE hx e31
      have hne : gs.length ≠ 30 := by omega
      have HD : Hid (digF (gs.concat x) d = gs ++ [sat1 x d]) := Lib.hid (by simp [digF])
      by_cases hs : x * 10 + d ≤ 65535
      all_goals
        go_enter Tryd.func103, Tryd.ntmps103
        go_wp2
        go_region
        all_goals
          go_end0
          refine ⟨rfl, ?_, grown_drew (grown_trans grown_set grown_set)⟩
          have h1 := (Blk.set_ H.out 30 (.int .i64 ((gs.length : Int) + 1))).set_ gs.length (.int .i64 (sat1 x d))
          rw [acc_list, set_list, set_list, show (gs.length : Int) + 1 = ((gs.length + 1 : Nat) : Int) from by omega, HE.out] at h1
          unfold Acc
          rw [HD.out, acc_list]
          have es : sat1 x d = min (x * 10 + d) 65535 := rfl
          first
            | (rw [show sat1 x d = x * 10 + d from by rw [es]; omega] at h1 ⊢; exact h1)
            | (rw [show sat1 x d = 65535 from by rw [es]; omega] at h1 ⊢; exact h1)
    · have e31 : ((min (gs ++ [x]).length 31 : Nat) : Int) = 31 := by simp; omega
      have H := Lib.hid h
      have HE := Lib.hid (acc_late gs x (sat1 x d) (by omega))
      have HD : Hid (digF (gs.concat x) d = gs ++ [sat1 x d]) := Lib.hid (by simp [digF])
      rw [e31] at hb
      clear h e31
      go_enter Tryd.func103, Tryd.ntmps103
      go_wp2
      go_end0
      refine ⟨rfl, ?_, grown_set⟩
      have h1 := Blk.set_ H.out 30 (.int .i64 31)
      have h2 : (accCells (gs ++ [x])).setIfInBounds 30 (.int .i64 31) = accCells (gs ++ [x]) := by
        have e31 : ((min (gs ++ [x]).length 31 : Nat) : Int) = 31 := by simp; omega
        rw [acc_list, set_list, List.set_append_right _ _ (by rw [padF_len]; omega), padF_len, e31]
        rfl
      rw [h2] at h1
      unfold Acc
      rw [HD.out, acc_list, ← HE.out, ← acc_list]
      exact h1

/-- One semicolon more. -/
def semF (fs : List Int) : List Int := if fs = [] then [0, 0] else fs ++ [0]
set_option maxHeartbeats 1000000 in
theorem semicolon_any (g : Nat) (fs : List Int) (w : World) (h : Acc w g fs) :
    Calls Tryd.prog 104 #[.pointer (some ⟨g, 0, none⟩)] w fun e w' => e = .returned (.tuple #[]) ∧ Acc w' g (semF fs) ∧ w.grownBy w' (some g) := by
  have hb := h.begun
  have f30 := Blk.frozen h 30
  have H := Lib.hid h
  clear h
  by_cases hf : fs = []
  · subst hf
    change w.cell? ⟨g, 30, none⟩ = some (.int .i64 0) at hb
    go_enter Tryd.func104, Tryd.ntmps104
    go_wp2
    go_end0
    refine ⟨rfl, ?_, grown_set⟩
    have h1 := Blk.set_ H.out 30 (.int .i64 2)
    rw [acc_list, set_list] at h1
    change Blk _ g _ (((padF [] ++ [((0 : Nat) : Int)]).set 30 2).map (Value.int .i64)).toArray at h1
    rw [acc_semi_nil] at h1
    unfold Acc
    rw [show semF [] = [0, 0] from rfl, acc_list]
    exact h1
  · have hl : 0 < fs.length := List.length_pos_iff.2 hf
    have HS : Hid (semF fs = fs ++ [0]) := Lib.hid (by simp [semF, hf])
    have HE := Lib.hid (acc_semi fs)
    clear hf
    obtain ⟨m, hm, hm1, hm2⟩ : ∃ m : Nat, m = min fs.length 31 ∧ 1 ≤ m ∧ m ≤ 31 := ⟨_, rfl, by omega, by omega⟩
    rw [← hm] at hb
    have HM := Lib.hid hm
    clear hm hl
    by_cases h31 : m = 31
    · have H31 := Lib.hid h31
      subst h31
      go_enter Tryd.func104, Tryd.ntmps104
      go_wp2
      go_end0
      refine ⟨rfl, ?_, grown_set⟩
      have h1 := Blk.set_ H.out 30 (.int .i64 ((min (fs.length + 1) 31 : Nat) : Int))
      rw [acc_list, set_list, HE.out, show ((min (fs.length + 1) 31 : Nat) : Int) = 31 from by have := HM.out; omega] at h1
      unfold Acc
      rw [HS.out, acc_list]
      exact h1
    · have hlt : m < 31 := by omega
      clear h31
      go_enter Tryd.func104, Tryd.ntmps104
      go_wp2
      go_end0
      refine ⟨rfl, ?_, grown_set⟩
      have h1 := Blk.set_ H.out 30 (.int .i64 ((min (fs.length + 1) 31 : Nat) : Int))
      rw [acc_list, set_list, HE.out, show ((min (fs.length + 1) 31 : Nat) : Int) = (m : Int) + 1 from by have := HM.out; omega] at h1
      unfold Acc
      rw [HS.out, acc_list]
      exact h1

theorem stepF_eq (fs : List Int) (b : UInt8) : stepF fs b = if b = 59 then semF fs else digF fs (dgt b) := rfl
set_option maxHeartbeats 1000000 in
theorem byte_yes (g : Nat) (fs : List Int) (b : UInt8) (hb : okb b = true) (hf : InF fs) (w : World) (h : Acc w g fs) :
    Calls Tryd.prog 92 #[.pointer (some ⟨g, 0, none⟩), .int .u8 b.toNat] w fun e w' => e = .returned (.bool true) ∧ Acc w' g (stepF fs b) ∧ w.grownBy w' (some g) := by
  have HH := Lib.hid h
  by_cases h59 : b = 59
  · subst h59
    have HC := Lib.hid (semicolon_any g fs w h)
    clear h
    go_enter Tryd.func92, Tryd.ntmps92
    go_wp2_with (go_at_call 104; refine HC.out.mono ?_; rintro e w1 ⟨rfl, h1, h2⟩)
    go_ret
    exact ⟨rfl, h1, h2⟩
  · obtain ⟨b0, b1⟩ := okb_digit hb h59
    have HS := Lib.hid (stepF_eq fs b)
    rw [if_neg h59] at HS
    have HC := Lib.hid (digit_any g fs (dgt b) (by unfold dgt; omega) hf w h)
    have HD : Hid (dgt b = (b.toNat : Int) - 48) := Lib.hid rfl
    have e1 : IntKind.u8.wrap ((b.toNat : Int) - 48) = (b.toNat : Int) - 48 := by rw [IntKind.wrap_u8]; omega
    generalize dgt b = d at *
    generalize stepF fs b = fs2 at *
    clear h h59 hb
    generalize b.toNat = n at *
    go_enter Tryd.func92, Tryd.ntmps92
    go_wp2_with fail
    rw [← HD.out]
    refine HC.out.mono ?_
    rintro e w1 ⟨rfl, h1, h2⟩
    go_wp2
    go_ret
    exact ⟨rfl, by rw [HS.out]; exact h1, h2⟩

set_option maxHeartbeats 1000000 in
theorem byte_no (g : Nat) (b : UInt8) (hb : okb b = false) (w : World) :
    Calls Tryd.prog 92 #[.pointer (some ⟨g, 0, none⟩), .int .u8 b.toNat] w fun e w' => e = .returned (.bool false) ∧ w = w' := by
  have h : b.toNat ≠ 59 ∧ (b.toNat < 48 ∨ 57 < b.toNat) := by
    have hlt := b.toNat_lt
    simp [okb, UInt8.le_iff_toNat_le] at hb
    refine ⟨fun e => hb.1 (UInt8.toNat_inj.1 e), ?_⟩
    have := hb.2
    omega
  generalize b.toNat = n at *
  obtain ⟨h1, h2⟩ := h
  have h59 : ((n : Int) == 59) = false := by simp; omega
  clear h1 hb
  rcases h2 with h2 | h2
  · have hd : decide ((n : Int) ≥ 48) = false := by simp; omega
    go_enter Tryd.func92, Tryd.ntmps92
    go_wp2_with fail
    go_ret
    exact ⟨rfl, rfl⟩
  · have hd : decide ((n : Int) ≤ 57) = false := by simp; omega
    go_enter Tryd.func92, Tryd.ntmps92
    go_wp2_with fail
    go_ret
    exact ⟨rfl, rfl⟩
end Go.Proofs.YtpiliicphoacfaaDoor

/-
  Tokens: what the reference says of bytes and of what begins a kind.
  Tokens: the reference's check.
  Tokens: what the reference's check answers.
  Tokens: both checks answer the same. Plain facts.
  Tokens: the fixed fact; one told as the document's.
-/
import Derived.Test.YtpiliicphoacfaaTokL
namespace Go.Proofs.Ytpiliicphoacfaa

open Go Go.RowKit

def dataB (n : Nat) : Bool := amongB n 8 13 || (amongB n 32 126 || decide (160 ≤ n))
theorem noData_eq (n : Nat) : noDataB n = !dataB n := by
  unfold noDataB dataB amongB
  rw [Bool.eq_iff_iff]
  simp
set_option maxHeartbeats 4000000 in
theorem refData_any (n : Nat) (w : World) : Calls Try.prog 47 #[.int .u8 (n : Int)] w fun e w' => e = .returned (.bool (dataB n)) ∧ w = w' := by
  have e1 : decide ((8 : Int) ≤ (n : Int)) = decide (8 ≤ n) := by simp; omega
  have e2 : decide ((n : Int) ≤ 13) = decide (n ≤ 13) := by simp; omega
  have e3 : decide ((32 : Int) ≤ (n : Int)) = decide (32 ≤ n) := by simp; omega
  have e4 : decide ((n : Int) ≤ 126) = decide (n ≤ 126) := by simp; omega
  have e5 : decide ((160 : Int) ≤ (n : Int)) = decide (160 ≤ n) := by simp; omega
  unfold dataB amongB
  generalize decide (8 ≤ n) = b1 at *
  generalize decide (n ≤ 13) = b2 at *
  generalize decide (32 ≤ n) = b3 at *
  generalize decide (n ≤ 126) = b4 at *
  generalize decide (160 ≤ n) = b5 at *
  rcases b1 with _ | _ <;> rcases b2 with _ | _ <;> rcases b3 with _ | _ <;> rcases b4 with _ | _ <;> rcases b5 with _ | _ <;>
    (go_enter Try.func47, Try.ntmps47
     go_wp2_with fail
     go_ret
     exact ⟨rfl, rfl⟩)
set_option maxHeartbeats 4000000 in
theorem begins_any (j : Nat) (h : 4 ≤ j ∧ j ≤ 9) (w : World) : Calls Try.prog 46 #[.int .i64 (j : Int)] w fun e w' => e = .returned (.int .u8 (begN (j : Int) : Nat)) ∧ w = w' := by
  have hs : j = 4 ∨ j = 5 ∨ j = 6 ∨ j = 7 ∨ j = 8 ∨ j = 9 := by omega
  rcases hs with rfl | rfl | rfl | rfl | rfl | rfl
  all_goals
    clear h
    go_enter Try.func46, Try.ntmps46
    go_wp2_with fail
    go_ret
    exact ⟨rfl, rfl⟩
/-- The kind that a byte behind an escape begins; 0: none. -/
def begunP (c : Nat) : Nat := if c = 91 then 4 else if c = 80 then 5 else if c = 93 then 6 else if c = 88 then 7 else if c = 94 then 8 else if c = 95 then 9 else 0
theorem begun_le (c : Nat) : begunP c ≤ 9 := by unfold begunP; repeat' split <;> try omega
theorem begun_leads (c : Nat) : leadsB c = ((begunP c != 0) || (c == 92)) := by
  unfold leadsB begunP
  rw [Bool.eq_iff_iff]
  simp
  repeat' split <;> try omega
theorem begun_ge (c : Nat) : begunP c = 0 ∨ 4 ≤ begunP c := by unfold begunP; repeat' split <;> try omega
set_option maxHeartbeats 4000000 in
theorem begun_any (c : Nat) (w : World) : Calls Try.prog 32 #[.int .u8 (c : Int)] w fun e w' => e = .returned (.int .i64 (begunP c : Nat)) ∧ w = w' := by
  have HBg := Lib.hid (fun j h W => begins_any j h W)
  have HIs : Hid (∀ (j n : Nat), (j = 4 ∧ n = 91) ∨ (j = 5 ∧ n = 80) ∨ (j = 6 ∧ n = 93) ∨ (j = 7 ∧ n = 88) ∨ (j = 8 ∧ n = 94) ∨ (j = 9 ∧ n = 95) → (c = n → begunP c = j) ∧ (c ≠ n → begunP c ≠ j)) := Lib.hid (by
    intro j n h
    unfold begunP
    constructor
    · rintro rfl
      rcases h with ⟨rfl, rfl⟩ | ⟨rfl, rfl⟩ | ⟨rfl, rfl⟩ | ⟨rfl, rfl⟩ | ⟨rfl, rfl⟩ | ⟨rfl, rfl⟩ <;> rfl
    · intro hn
      repeat' split
      all_goals omega)
  have HLe := Lib.hid (begun_le c)
  have HGe := Lib.hid (begun_ge c)
  generalize begunP c = r at *
  go_enter Try.func32, Try.ntmps32
  go_wp2_with fail
  go_loopw [3] (fun i wr => ∃ j : Nat, 4 ≤ j ∧ j ≤ 10 ∧ i = .int .i64 j ∧ (r = 0 ∨ j ≤ r) ∧ w = wr) (fun i _ => 10 - (intOf i).toNat)
  case atStart => exact ⟨4, by omega, by omega, rfl, HGe.out, rfl⟩
  case round =>
    obtain ⟨j, h4, h10, rfl, hr, rfl⟩ := hrel
    have HRr := Lib.hid hr
    clear hr
    by_cases hlt : j ≤ 9
    · have hs : j = 4 ∨ j = 5 ∨ j = 6 ∨ j = 7 ∨ j = 8 ∨ j = 9 := by omega
      clear h4 h10 hlt
      rcases hs with rfl | rfl | rfl | rfl | rfl | rfl
      · have HB : Hid (∀ W, Calls Try.prog 46 #[.int .i64 4] W fun e w' => e = .returned (.int .u8 91) ∧ W = w') := Lib.hid (fun W => HBg.out 4 (by omega) W)
        obtain ⟨y1, y2⟩ := HIs.out 4 91 (by simp)
        by_cases hc : c = 91
        · have hq : ((91 : Int) == (c : Int)) = true := by rw [hc]; rfl
          have HE := Lib.hid (y1 hc)
          clear hc y1 y2
          go_wp2_with fail
          refine (HB.out _).mono ?_
          rintro e w1 ⟨rfl, rfl⟩
          go_wp2_with fail
          go_ret
          exact ⟨by rw [HE.out]; rfl, rfl⟩
        · have hq : ((91 : Int) == (c : Int)) = false := by rw [beq_eq_false_iff_ne]; omega
          have HE := Lib.hid (y2 hc)
          clear hc y1 y2
          go_wp2_with fail
          refine (HB.out _).mono ?_
          rintro e w1 ⟨rfl, rfl⟩
          go_wp2_with fail
          go_roundw
          case rel => exact ⟨5, by omega, by omega, rfl, by have := HRr.out; have := HE.out; omega, trivial⟩
          case measure => simp [intOf]
      · have HB : Hid (∀ W, Calls Try.prog 46 #[.int .i64 5] W fun e w' => e = .returned (.int .u8 80) ∧ W = w') := Lib.hid (fun W => HBg.out 5 (by omega) W)
        obtain ⟨y1, y2⟩ := HIs.out 5 80 (by simp)
        by_cases hc : c = 80
        · have hq : ((80 : Int) == (c : Int)) = true := by rw [hc]; rfl
          have HE := Lib.hid (y1 hc)
          clear hc y1 y2
          go_wp2_with fail
          refine (HB.out _).mono ?_
          rintro e w1 ⟨rfl, rfl⟩
          go_wp2_with fail
          go_ret
          exact ⟨by rw [HE.out]; rfl, rfl⟩
        · have hq : ((80 : Int) == (c : Int)) = false := by rw [beq_eq_false_iff_ne]; omega
          have HE := Lib.hid (y2 hc)
          clear hc y1 y2
          go_wp2_with fail
          refine (HB.out _).mono ?_
          rintro e w1 ⟨rfl, rfl⟩
          go_wp2_with fail
          go_roundw
          case rel => exact ⟨6, by omega, by omega, rfl, by have := HRr.out; have := HE.out; omega, trivial⟩
          case measure => simp [intOf]
      · have HB : Hid (∀ W, Calls Try.prog 46 #[.int .i64 6] W fun e w' => e = .returned (.int .u8 93) ∧ W = w') := Lib.hid (fun W => HBg.out 6 (by omega) W)
        obtain ⟨y1, y2⟩ := HIs.out 6 93 (by simp)
        by_cases hc : c = 93
        · have hq : ((93 : Int) == (c : Int)) = true := by rw [hc]; rfl
          have HE := Lib.hid (y1 hc)
          clear hc y1 y2
          go_wp2_with fail
          refine (HB.out _).mono ?_
          rintro e w1 ⟨rfl, rfl⟩
          go_wp2_with fail
          go_ret
          exact ⟨by rw [HE.out]; rfl, rfl⟩
        · have hq : ((93 : Int) == (c : Int)) = false := by rw [beq_eq_false_iff_ne]; omega
          have HE := Lib.hid (y2 hc)
          clear hc y1 y2
          go_wp2_with fail
          refine (HB.out _).mono ?_
          rintro e w1 ⟨rfl, rfl⟩
          go_wp2_with fail
          go_roundw
          case rel => exact ⟨7, by omega, by omega, rfl, by have := HRr.out; have := HE.out; omega, trivial⟩
          case measure => simp [intOf]
      · have HB : Hid (∀ W, Calls Try.prog 46 #[.int .i64 7] W fun e w' => e = .returned (.int .u8 88) ∧ W = w') := Lib.hid (fun W => HBg.out 7 (by omega) W)
        obtain ⟨y1, y2⟩ := HIs.out 7 88 (by simp)
        by_cases hc : c = 88
        · have hq : ((88 : Int) == (c : Int)) = true := by rw [hc]; rfl
          have HE := Lib.hid (y1 hc)
          clear hc y1 y2
          go_wp2_with fail
          refine (HB.out _).mono ?_
          rintro e w1 ⟨rfl, rfl⟩
          go_wp2_with fail
          go_ret
          exact ⟨by rw [HE.out]; rfl, rfl⟩
        · have hq : ((88 : Int) == (c : Int)) = false := by rw [beq_eq_false_iff_ne]; omega
          have HE := Lib.hid (y2 hc)
          clear hc y1 y2
          go_wp2_with fail
          refine (HB.out _).mono ?_
          rintro e w1 ⟨rfl, rfl⟩
          go_wp2_with fail
          go_roundw
          case rel => exact ⟨8, by omega, by omega, rfl, by have := HRr.out; have := HE.out; omega, trivial⟩
          case measure => simp [intOf]
      · have HB : Hid (∀ W, Calls Try.prog 46 #[.int .i64 8] W fun e w' => e = .returned (.int .u8 94) ∧ W = w') := Lib.hid (fun W => HBg.out 8 (by omega) W)
        obtain ⟨y1, y2⟩ := HIs.out 8 94 (by simp)
        by_cases hc : c = 94
        · have hq : ((94 : Int) == (c : Int)) = true := by rw [hc]; rfl
          have HE := Lib.hid (y1 hc)
          clear hc y1 y2
          go_wp2_with fail
          refine (HB.out _).mono ?_
          rintro e w1 ⟨rfl, rfl⟩
          go_wp2_with fail
          go_ret
          exact ⟨by rw [HE.out]; rfl, rfl⟩
        · have hq : ((94 : Int) == (c : Int)) = false := by rw [beq_eq_false_iff_ne]; omega
          have HE := Lib.hid (y2 hc)
          clear hc y1 y2
          go_wp2_with fail
          refine (HB.out _).mono ?_
          rintro e w1 ⟨rfl, rfl⟩
          go_wp2_with fail
          go_roundw
          case rel => exact ⟨9, by omega, by omega, rfl, by have := HRr.out; have := HE.out; omega, trivial⟩
          case measure => simp [intOf]
      · have HB : Hid (∀ W, Calls Try.prog 46 #[.int .i64 9] W fun e w' => e = .returned (.int .u8 95) ∧ W = w') := Lib.hid (fun W => HBg.out 9 (by omega) W)
        obtain ⟨y1, y2⟩ := HIs.out 9 95 (by simp)
        by_cases hc : c = 95
        · have hq : ((95 : Int) == (c : Int)) = true := by rw [hc]; rfl
          have HE := Lib.hid (y1 hc)
          clear hc y1 y2
          go_wp2_with fail
          refine (HB.out _).mono ?_
          rintro e w1 ⟨rfl, rfl⟩
          go_wp2_with fail
          go_ret
          exact ⟨by rw [HE.out]; rfl, rfl⟩
        · have hq : ((95 : Int) == (c : Int)) = false := by rw [beq_eq_false_iff_ne]; omega
          have HE := Lib.hid (y2 hc)
          clear hc y1 y2
          go_wp2_with fail
          refine (HB.out _).mono ?_
          rintro e w1 ⟨rfl, rfl⟩
          go_wp2_with fail
          go_roundw
          case rel => exact ⟨10, by omega, by omega, rfl, by have := HRr.out; have := HE.out; omega, trivial⟩
          case measure => simp [intOf]
    · obtain rfl : j = 10 := by omega
      have HE : Hid (r = 0) := Lib.hid (by have := HRr.out; have := HLe.out; omega)
      clear hlt h4 h10
      go_wp2_with fail
      go_ret
      exact ⟨by rw [HE.out]; rfl, rfl⟩
end Go.Proofs.Ytpiliicphoacfaa

namespace Go.Proofs.Ytpiliicphoacfaa

open Go Go.RowKit

def codeQ (k : Int) (c : Nat) (s : ByteArray) : Bool :=
  if k = 1 then amongB c 32 126 || decide (160 ≤ c)
  else if k = 2 then amongB c 1 31 && ((c != 24) && (c != 27))
  else if k = 3 then (if decide (s.size = 0) && ((begunP c != 0) || (c == 92)) then false else amongB c 48 126)
  else if k = 4 ∨ k = 5 then amongB c 64 126
  else c == 0
theorem code_same (k : Int) (c : Nat) (s : ByteArray) : codeQ k c s = if k = 1 ∨ k = 2 ∨ k = 3 ∨ k = 4 ∨ k = 5 then codedB k c s else c == 0 := by
  unfold codeQ codedB
  by_cases k1 : k = 1
  · subst k1; rfl
  · by_cases k2 : k = 2
    · subst k2; rfl
    · by_cases k3 : k = 3
      · subst k3
        show (if (decide (s.size = 0) && ((begunP c != 0) || (c == 92))) = true then false else amongB c 48 126) = (amongB c 48 126 && (!decide (s.size = 0) || !leadsB c))
        rw [begun_leads]
        cases decide (s.size = 0) <;> cases (begunP c != 0) <;> cases (c == 92) <;> cases amongB c 48 126 <;> rfl
      · by_cases k4 : k = 4 ∨ k = 5
        · rw [if_neg k1, if_neg k2, if_neg k3, if_pos k4, if_pos (by omega), if_neg k1, if_neg k2, if_neg k3, if_pos k4]
        · rw [if_neg k1, if_neg k2, if_neg k3, if_neg k4, if_neg (by omega)]
theorem le_lit (a : Nat) (n : Nat) : decide ((a : Int) ≤ (n : Int)) = decide (a ≤ n) := by simp

end Go.Proofs.Ytpiliicphoacfaa

namespace Go.Proofs.Ytpiliicphoacfaa

open Go Go.RowKit

def rngB (n : Int) : Bool := !decide (n < 0) && !decide (65535 < n)
def pick8 (bK bS qr qi qd qc bM bL : Bool) : Int := if bK then 1 else if bS then 2 else if !qr then 2 else if !qi then 3 else if !qd then 3 else if !qc then 3 else if bM then 3 else if bL then 3 else 0
def lateB (k : Int) (m : Nat) (ps : List Int) (s : ByteArray) (dt : List Nat) : Bool :=
  (!((k == 4) || (k == 5)) && ((m != 0) || decide (0 < ps.length))) || ((!((k == 4) || (k == 5)) && ((k != 3) && !(decide (s.size = 0)))) || (decide (k < 5) && decide (0 < dt.length)))
def refChkP (k : Int) (c m : Nat) (ps : List Int) (s : ByteArray) (dt : List Nat) : Int :=
  pick8 (decide (k < 1) || decide (9 < k)) (decide (3 < s.size) || (decide (30 < ps.length) || decide (4096 < dt.length))) (ps.all rngB) (s.data.toList.all interB) (dt.all dataB) (codeQ k c s) ((m != 0) && (decide (m < 60) || decide (63 < m))) (lateB k m ps s dt)
theorem allR_step {ps : List Int} {j : Nat} (hj : j < ps.length) (h : (ps.take j).all rngB = true) : (rngB ps[j] = true → (ps.take (j + 1)).all rngB = true) ∧ (rngB ps[j] = false → ps.all rngB = false) := by
  constructor
  · intro hi
    rw [take_snoc _ j hj, List.all_append, h]
    simp [hi]
  · intro hi
    rcases he : ps.all rngB with _ | _
    · rfl
    · have := List.all_eq_true.1 he _ (List.getElem_mem hj)
      rw [hi] at this
      cases this
theorem allD_step {ps : List Nat} {j : Nat} (hj : j < ps.length) (h : (ps.take j).all dataB = true) : (dataB ps[j] = true → (ps.take (j + 1)).all dataB = true) ∧ (dataB ps[j] = false → ps.all dataB = false) := by
  constructor
  · intro hi
    rw [take_snoc _ j hj, List.all_append, h]
    simp [hi]
  · intro hi
    rcases he : ps.all dataB with _ | _
    · rfl
    · have := List.all_eq_true.1 he _ (List.getElem_mem hj)
      rw [hi] at this
      cases this
theorem lt_lit (a n : Nat) : decide ((a : Int) < (n : Int)) = decide (a < n) := by simp

end Go.Proofs.Ytpiliicphoacfaa

namespace Go.Proofs.Ytpiliicphoacfaa

open Go Go.RowKit

theorem bstr_nil (dt : List Nat) : decide (bstr dt = bstr []) = decide (dt.length = 0) := by
  rw [Bool.eq_iff_iff, decide_eq_true_iff, decide_eq_true_iff]
  constructor
  · intro h
    have := congrArg ByteArray.size h
    rw [bstr_size, bstr_size] at this
    exact this
  · intro h
    rw [List.length_eq_zero_iff.1 h]
theorem str_nil (s : ByteArray) : (s.toList == (ByteArray.mk #[]).toList) = decide (s.size = 0) := by
  rw [ByteArray.toList_eq, ByteArray.toList_eq, ← dlen]
  cases s.data.toList <;> simp
theorem ints_nil (ps : List Int) : (ps == []) = decide (ps.length = 0) := by
  cases ps <;> simp
theorem pos_dec (n : Nat) : decide (0 < n) = !decide (n = 0) := by
  by_cases h : n = 0
  · subst h; rfl
  · rw [decide_eq_false h, decide_eq_true (by omega)]; rfl
theorem mcast (m : Nat) : ((m : Int) == 0) = !(m != 0) := by
  rw [Bool.eq_iff_iff]
  simp
theorem same_zero (k c m : Int) (ps : List Int) (s : ByteArray) (dt : List Nat) : sameQ k c m ps s dt k 0 0 [] (ByteArray.mk #[]) [] = ((c == 0) && ((m == 0) && (decide (s.size = 0) && (decide (ps.length = 0) && decide (dt.length = 0))))) := by
  unfold sameQ
  rw [bstr_nil, str_nil, ints_nil]
  simp
theorem pure_late (k : Int) (h1 : 1 ≤ k) (h9 : k ≤ 9) (c m : Nat) (ps : List Int) (s : ByteArray) (dt : List Nat) : (pureB k c m ps s dt && codedB k c s) = (codeQ k c s && !lateB k m ps s dt) := by
  unfold pureB lateB
  rw [code_same, pos_dec, pos_dec]
  simp only [same_zero, mcast]
  have hc : (c == 0) = !(c != 0) := by cases h : (c == 0) <;> simp [bne, h]
  rw [hc]
  have hs : k = 1 ∨ k = 2 ∨ k = 3 ∨ k = 4 ∨ k = 5 ∨ k = 6 ∨ k = 7 ∨ k = 8 ∨ k = 9 := by omega
  rcases hs with rfl | rfl | rfl | rfl | rfl | h
  · generalize codedB 1 c s = q
    cases q <;> cases (m != 0) <;> cases decide (s.size = 0) <;> cases decide (ps.length = 0) <;> cases decide (dt.length = 0) <;> rfl
  · generalize codedB 2 c s = q
    cases q <;> cases (m != 0) <;> cases decide (s.size = 0) <;> cases decide (ps.length = 0) <;> cases decide (dt.length = 0) <;> rfl
  · generalize codedB 3 c s = q
    cases q <;> cases (m != 0) <;> cases decide (s.size = 0) <;> cases decide (ps.length = 0) <;> cases decide (dt.length = 0) <;> rfl
  · generalize codedB 4 c s = q
    cases q <;> cases (m != 0) <;> cases decide (s.size = 0) <;> cases decide (ps.length = 0) <;> cases decide (dt.length = 0) <;> rfl
  · generalize codedB 5 c s = q
    cases q <;> cases (m != 0) <;> cases decide (s.size = 0) <;> cases decide (ps.length = 0) <;> cases decide (dt.length = 0) <;> rfl
  · have ec : codedB k c s = true := by
      unfold codedB
      rw [if_neg (by omega), if_neg (by omega), if_neg (by omega), if_neg (by omega)]
    rw [ec]
    rcases h with rfl | rfl | rfl | rfl
    all_goals
      cases (c != 0) <;> cases (m != 0) <;> cases decide (s.size = 0) <;> cases decide (ps.length = 0) <;> cases decide (dt.length = 0) <;> rfl
theorem out_rng (n : Int) : outB n = !rngB n := by
  unfold outB rngB clipP
  rw [Bool.eq_iff_iff]
  simp
  omega
theorem any_not {α : Type} (f g : α → Bool) (h : ∀ x, f x = !g x) : ∀ l : List α, l.any f = !l.all g
  | [] => rfl
  | x :: l => by rw [List.any_cons, List.all_cons, h, any_not f g h l, Bool.not_and]
theorem chk_same (k : Int) (c m : Nat) (ps : List Int) (s : ByteArray) (dt : List Nat) : refChkP k c m ps s dt = checkP k c m ps s dt := by
  unfold refChkP checkP
  by_cases hk : k < 1 ∨ 9 < k
  · rw [if_pos hk]
    have : (decide (k < 1) || decide (9 < k)) = true := by simpa using hk
    rw [this]
    rfl
  · rw [if_neg hk]
    have e : (decide (k < 1) || decide (9 < k)) = false := by simp; omega
    rw [e]
    have hpl := pure_late k (by omega) (by omega) c m ps s dt
    have hsm : smallB ps s dt = (!(decide (3 < s.size) || (decide (30 < ps.length) || decide (4096 < dt.length))) && ps.all rngB) := by
      unfold smallB
      rw [any_not outB rngB out_rng ps]
      have q1 : decide (s.size ≤ 3) = !decide (3 < s.size) := by rw [Bool.eq_iff_iff]; simp
      have q2 : decide (ps.length ≤ 30) = !decide (30 < ps.length) := by rw [Bool.eq_iff_iff]; simp
      have q3 : decide (dt.length ≤ 4096) = !decide (4096 < dt.length) := by rw [Bool.eq_iff_iff]; simp
      rw [q1, q2, q3]
      cases decide (3 < s.size) <;> cases decide (30 < ps.length) <;> cases decide (4096 < dt.length) <;> cases ps.all rngB <;> rfl
    have hwr : writtenB m s dt = (!((m != 0) && (decide (m < 60) || decide (63 < m))) && (s.data.toList.all interB && dt.all dataB)) := by
      unfold writtenB amongB
      rw [any_not noDataB dataB noData_eq dt]
      have q1 : decide (60 ≤ m) = !decide (m < 60) := by rw [Bool.eq_iff_iff]; simp
      have q2 : decide (m ≤ 63) = !decide (63 < m) := by rw [Bool.eq_iff_iff]; simp
      have q3 : (m == 0) = !(m != 0) := by cases h : (m == 0) <;> simp [bne, h]
      rw [q1, q2, q3]
      cases (m != 0) <;> cases decide (m < 60) <;> cases decide (63 < m) <;> cases s.data.toList.all interB <;> cases dt.all dataB <;> rfl
    have h3 : (pureB k c m ps s dt && (codedB k c s && writtenB m s dt)) = ((codeQ k c s && !lateB k m ps s dt) && writtenB m s dt) := by rw [← hpl, Bool.and_assoc]
    rw [h3, hsm, hwr]
    cases (decide (3 < s.size) || (decide (30 < ps.length) || decide (4096 < dt.length))) <;> cases ps.all rngB <;> cases s.data.toList.all interB <;> cases dt.all dataB <;> cases codeQ k c s <;> cases ((m != 0) && (decide (m < 60) || decide (63 < m))) <;> cases lateB k m ps s dt <;> rfl
end Go.Proofs.Ytpiliicphoacfaa

namespace Go.Proofs.Ytpiliicphoacfaa

open Go Go.RowKit

theorem fmt_six : fmtL [6] = [54] := by
  unfold fmtL digs
  show Lib.join [Lib.decDigits 6] [59] = [54]
  rw [Lib.decDigits, dif_pos (by omega)]
  rfl
theorem fmt_none : fmtL [] = [] := rfl
def dollar : ByteArray := ⟨#[36]⟩
theorem fix_check : checkP 4 112 63 [6] ⟨#[36]⟩ [] = 0 := by decide +kernel
theorem fix_bytes : bytesL 4 112 63 [6] ⟨#[36]⟩ [] true = [155, 63, 54, 36, 112] := by
  show leadL 91 true ++ signsL 112 63 [6] ⟨#[36]⟩ ++ [] = _
  unfold signsL
  rw [fmt_six]
  rfl
theorem fix_id : idP 4 112 63 ⟨#[36]⟩ = ⟨#[63, 36, 112]⟩ := by
  unfold idP signsL
  rw [fmt_none]
  rfl
theorem fix_str : bstr [155, 63, 54, 36, 112] = ⟨#[155, 63, 54, 36, 112]⟩ := rfl
set_option maxRecDepth 100000 in
set_option maxHeartbeats 8000000 in
theorem told_any (k : Int) (c m : Int) (P : Option Addr) (ps : List Int) (pc : Nat) (s : ByteArray) (D : Option Addr) (dt : List Nat) (dc : Nat) (w : World) :
    Calls Try.prog 19 #[.agg (tkC k c m P ps pc s D dt dc)] w fun e w' => e = .returned (.agg (tkC k c m P ps pc s D dt dc)) ∧ Below w.heap.size w w' := by
  unfold tkC
  go_enter Try.func19, Try.ntmps19
  go_wp2_with fail
  exact bodyPost_ret (v := .agg #[.int .i64 k, .int .u8 c, .int .u8 m, .slice P ps.length pc, .string s, .slice D dt.length dc]) (by simp [results, Try.results19, go_sem]) rfl ⟨rfl, by go_grown⟩

end Go.Proofs.Ytpiliicphoacfaa

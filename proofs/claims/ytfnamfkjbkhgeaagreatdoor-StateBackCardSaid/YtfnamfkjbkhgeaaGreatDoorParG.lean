/-
  The plain mathematics of texts of numbers: fields between semicolons, each a number that stops growing at 65535.
  The walks of what collects numbers byte by byte: a digit, a semicolon, any byte.
  The walks of what collects numbers byte by byte.
  The walk that copies the collected numbers out.
  The walk that reads a text of numbers.
  The walks of the reference: a number of digits, a text of numbers piece by piece.
  The plain mathematics of the reference's way: piece by piece.
-/
import Derived.Below
import Derived.KernelRfl
import Derived.Lib.Hide
import Derived.Test.YtfnamfkjbkhgeaaGreatDoorSame
import Derived.RegionTactic
import Derived.Test.YtfnamfkjbkhgeaaGreatDoorKit2
import Derived.Laws.CopyOwn
import Derived.Lib.Strings
namespace Go.Proofs.YtfnamfkjbkhgeaaGreatDoor

open Go

/-- May the byte stand in such a text? -/
def okb (b : UInt8) : Bool := b == 59 || (48 ≤ b && b ≤ 57)
/-- A digit's number. -/
def dgt (b : UInt8) : Int := (b.toNat : Int) - 48
def sat1 (n d : Int) : Int := min (n * 10 + d) 65535
/-- The number that digits are. -/
def sat (l : List UInt8) : Int := l.foldl (fun n b => sat1 n (dgt b)) 0
/-- One byte more: what the fields are then. -/
def stepF (fs : List Int) (b : UInt8) : List Int :=
  if b = 59 then (if fs = [] then [0, 0] else fs ++ [0])
  else if fs = [] then [sat1 0 (dgt b)] else fs.dropLast ++ [sat1 (fs.getLastD 0) (dgt b)]
def fieldsOf (l : List UInt8) : List Int := l.foldl stepF []
theorem fieldsOf_snoc (l : List UInt8) (b : UInt8) : fieldsOf (l ++ [b]) = stepF (fieldsOf l) b := by simp [fieldsOf]
theorem stepF_semi_nil : stepF [] 59 = [0, 0] := by decide
theorem stepF_semi {fs : List Int} (h : fs ≠ []) : stepF fs 59 = fs ++ [0] := by simp [stepF, h]
theorem stepF_digit_nil {b : UInt8} (hb : b ≠ 59) : stepF [] b = [sat1 0 (dgt b)] := by simp [stepF, hb]
theorem stepF_digit (fs : List Int) (x : Int) {b : UInt8} (hb : b ≠ 59) : stepF (fs ++ [x]) b = fs ++ [sat1 x (dgt b)] := by simp [stepF, hb]
theorem stepF_ne (fs : List Int) (b : UInt8) : stepF fs b ≠ [] := by
  unfold stepF
  split
  · split <;> simp
  · split <;> simp
theorem fieldsOf_ne {l : List UInt8} (h : l ≠ []) : fieldsOf l ≠ [] := by
  obtain ⟨m, b, rfl⟩ : ∃ m b, l = m ++ [b] := ⟨l.dropLast, l.getLast h, (List.dropLast_concat_getLast h).symm⟩
  rw [fieldsOf_snoc]; exact stepF_ne _ _
theorem okb_digit {b : UInt8} (h : okb b = true) (hb : b ≠ 59) : 48 ≤ b.toNat ∧ b.toNat ≤ 57 := by
  simp [okb, hb, UInt8.le_iff_toNat_le] at h
  omega
/-- What a field may be. -/
def InF (fs : List Int) : Prop := ∀ n ∈ fs, 0 ≤ n ∧ n ≤ 65535
theorem sat1_range {n d : Int} (h0 : 0 ≤ n) (hd : 0 ≤ d) : 0 ≤ sat1 n d ∧ sat1 n d ≤ 65535 := by unfold sat1; omega
theorem stepF_range {fs : List Int} {b : UInt8} (h : InF fs) (hb : okb b = true) : InF (stepF fs b) := by
  by_cases h59 : b = 59
  · subst h59
    by_cases hf : fs = []
    · subst hf; rw [stepF_semi_nil]; intro n hn; simp at hn; omega
    · rw [stepF_semi hf]; intro n hn
      rcases List.mem_append.1 hn with h1 | h1
      · exact h n h1
      · simp at h1; omega
  · have hd := okb_digit hb h59
    have hd0 : 0 ≤ dgt b := by unfold dgt; omega
    by_cases hf : fs = []
    · subst hf; rw [stepF_digit_nil h59]; intro n hn; simp at hn; subst hn; exact sat1_range (by omega) hd0
    · obtain ⟨gs, x, rfl⟩ : ∃ gs x, fs = gs ++ [x] := ⟨fs.dropLast, fs.getLast hf, (List.dropLast_concat_getLast hf).symm⟩
      rw [stepF_digit gs x h59]
      intro n hn
      rcases List.mem_append.1 hn with h1 | h1
      · exact h n (List.mem_append_left _ h1)
      · simp at h1; subst h1; exact sat1_range (h x (by simp)).1 hd0
/-- A text of such bytes alone. -/
def OkB (l : List UInt8) : Prop := ∀ b ∈ l, okb b = true
theorem fieldsOf_range {l : List UInt8} (h : OkB l) : InF (fieldsOf l) := by
  suffices H : ∀ (l : List UInt8) (fs : List Int), InF fs → OkB l → InF (l.foldl stepF fs) from H l [] (fun _ h => by simp at h) h
  intro l
  induction l with
  | nil => intro fs h _; exact h
  | cons b l ih => intro fs h1 h2; exact ih _ (stepF_range h1 (h2 b (by simp))) (fun x hx => h2 x (by simp [hx]))
theorem fieldsOf_len (l : List UInt8) : (fieldsOf l).length ≤ l.length + 1 := by
  suffices H : ∀ (l : List UInt8) (fs : List Int), fs.length ≤ (l.foldl stepF fs).length ∧ (l.foldl stepF fs).length ≤ max fs.length 1 + l.length by
    have := (H l []).2; simp at this; unfold fieldsOf; omega
  intro l
  induction l with
  | nil => intro fs; simp; omega
  | cons b l ih =>
    intro fs
    have := ih (stepF fs b)
    have hs : fs.length ≤ (stepF fs b).length ∧ (stepF fs b).length ≤ max fs.length 1 + 1 := by
      unfold stepF
      by_cases hf : fs = []
      · subst hf; split <;> simp
      · have : 0 < fs.length := List.length_pos_iff.2 hf
        split <;> simp <;> omega
    simp only [List.foldl_cons, List.length_cons]
    omega
/-- The first thirty. -/
def numsOf (l : List UInt8) : List Int := (fieldsOf l).take 30
theorem numsOf_range {l : List UInt8} (h : OkB l) : InF (numsOf l) := fun n hn => fieldsOf_range h n (List.mem_of_mem_take hn)
theorem numsOf_len (l : List UInt8) : (numsOf l).length ≤ 30 := by unfold numsOf; simp; omega
/-- What lies behind the fields that are done: the bytes of the last one. -/
theorem fold_digits (gs : List Int) (x : Int) (p : List UInt8) (h : ∀ b ∈ p, b ≠ 59) : p.foldl stepF (gs ++ [x]) = gs ++ [p.foldl (fun n b => sat1 n (dgt b)) x] := by
  induction p generalizing x with
  | nil => rfl
  | cons b p ih =>
    rw [List.foldl_cons, stepF_digit gs x (h b (by simp)), ih _ (fun c hc => h c (by simp [hc]))]
    rfl
theorem fieldsOf_digits (p : List UInt8) (h : ∀ b ∈ p, b ≠ 59) (hp : p ≠ []) : fieldsOf p = [sat p] := by
  cases p with
  | nil => exact absurd rfl hp
  | cons b p =>
    show p.foldl stepF (stepF [] b) = _
    rw [stepF_digit_nil (h b (by simp))]
    exact fold_digits [] _ p (fun c hc => h c (by simp [hc]))
/-- A text that ends with a semicolon has one field more, which is nought. -/
theorem fieldsOf_semi (l : List UInt8) : fieldsOf (l ++ [59]) = (if l = [] then [0] else fieldsOf l) ++ [0] := by
  rw [fieldsOf_snoc]
  by_cases h : l = []
  · subst h; rfl
  · rw [stepF_semi (fieldsOf_ne h), if_neg h]
theorem fieldsOf_semi_digits (l p : List UInt8) (h : ∀ b ∈ p, b ≠ 59) : fieldsOf (l ++ [59] ++ p) = (if l = [] then [0] else fieldsOf l) ++ [sat p] := by
  have : fieldsOf (l ++ [59] ++ p) = p.foldl stepF (fieldsOf (l ++ [59])) := by simp [fieldsOf]
  rw [this, fieldsOf_semi, fold_digits _ _ _ h]
  rfl
end Go.Proofs.YtfnamfkjbkhgeaaGreatDoor

namespace Go.Proofs.YtfnamfkjbkhgeaaGreatDoor

open Go.RowKit

/-- The fields that have begun, at most thirty and one more. -/
def padF (fs : List Int) : List Int := fs.take 30 ++ List.replicate (30 - fs.length) 0
def accCells (fs : List Int) : Array Value := ((padF fs).map (Value.int .i64) ++ [Value.int .i64 (min fs.length 31 : Nat)]).toArray
theorem padF_len (fs : List Int) : (padF fs).length = 30 := by unfold padF; simp; omega
theorem acc_begun (fs : List Int) : (accCells fs)[30]? = some (.int .i64 (min fs.length 31 : Nat)) := by
  unfold accCells
  rw [List.getElem?_toArray, List.getElem?_append_right (by simp [padF_len]), List.length_map, padF_len]
  rfl
theorem acc_at (fs : List Int) (k : Nat) (hk : k < 30) : (accCells fs)[k]? = (padF fs)[k]?.map (Value.int .i64) := by
  unfold accCells
  rw [List.getElem?_toArray, List.getElem?_append_left (by simp [padF_len, hk]), List.getElem?_map]
/-- Where a box keeps what was taken. -/
def Acc (w : World) (g : Nat) (fs : List Int) : Prop := Blk w g 116 (accCells fs)
theorem Acc.begun {w : World} {g : Nat} {fs : List Int} (h : Acc w g fs) : w.cell? ⟨g, 30, none⟩ = some (.int .i64 (min fs.length 31 : Nat)) := (h.cell 30).trans (acc_begun fs)
/-- The array's cells, as a list. -/
theorem acc_list (fs : List Int) : accCells fs = ((padF fs ++ [((min fs.length 31 : Nat) : Int)]).map (Value.int .i64)).toArray := by unfold accCells; simp
theorem set_list (l : List Int) (k : Nat) (n : Int) : ((l.map (Value.int .i64)).toArray).setIfInBounds k (.int .i64 n) = ((l.set k n).map (Value.int .i64)).toArray := by simp [List.map_set]

theorem acc_first_digit (d : Int) : ((padF [] ++ [((0 : Nat) : Int)]).set 30 1).set 0 d = padF [d] ++ [((1 : Nat) : Int)] := by
  simp [padF, List.replicate]
theorem acc_digit (gs : List Int) (x d : Int) (h : gs.length < 30) : ((padF (gs ++ [x]) ++ [((min (gs ++ [x]).length 31 : Nat) : Int)]).set 30 ((gs.length + 1 : Nat) : Int)).set gs.length d = padF (gs ++ [d]) ++ [((min (gs ++ [d]).length 31 : Nat) : Int)] := by
  have e : ∀ y : Int, padF (gs ++ [y]) = gs ++ y :: List.replicate (29 - gs.length) 0 := by
    intro y
    unfold padF
    rw [List.take_of_length_le (by simp <;> omega), show 30 - (gs ++ [y]).length = 29 - gs.length from by simp <;> omega]
    simp
  have hm : ∀ y : Int, min (gs ++ [y]).length 31 = gs.length + 1 := by intro y; simp; omega
  rw [e, e, hm, hm]
  have h30 : (gs ++ x :: List.replicate (29 - gs.length) 0).length = 30 := by simp <;> omega
  rw [List.set_append_right _ _ (by omega), h30]
  simp only [Nat.sub_self, List.set_cons_zero]
  rw [List.set_append_left _ _ (by omega)]
  simp
theorem padF_long (fs : List Int) (h : 30 ≤ fs.length) : padF fs = fs.take 30 := by unfold padF; rw [show 30 - fs.length = 0 from by omega]; simp
/-- A semicolon begins one more. -/
theorem acc_semi (fs : List Int) : (padF fs ++ [((min fs.length 31 : Nat) : Int)]).set 30 ((min (fs.length + 1) 31 : Nat) : Int) = padF (fs ++ [0]) ++ [((min (fs ++ [(0 : Int)]).length 31 : Nat) : Int)] := by
  have e : padF (fs ++ [0]) = padF fs := by
    unfold padF
    by_cases h : fs.length < 30
    · rw [List.take_of_length_le (by simp <;> omega), List.take_of_length_le (by omega), show 30 - fs.length = (30 - (fs ++ [(0 : Int)]).length) + 1 from by simp <;> omega, List.replicate_succ]
      simp
    · rw [List.take_append_of_le_length (by omega), show 30 - fs.length = 0 from by omega, show 30 - (fs ++ [(0 : Int)]).length = 0 from by simp <;> omega]
  rw [List.set_append_right _ _ (by rw [padF_len]; omega), padF_len, e]
  simp
theorem acc_semi_nil : (padF [] ++ [((0 : Nat) : Int)]).set 30 2 = padF [0, 0] ++ [((2 : Nat) : Int)] := by simp [padF, List.replicate]
/-- A digit behind the thirtieth number is forgotten. -/
theorem acc_late (gs : List Int) (x d : Int) (h : 30 ≤ gs.length) : padF (gs ++ [x]) ++ [((min (gs ++ [x]).length 31 : Nat) : Int)] = padF (gs ++ [d]) ++ [((min (gs ++ [d]).length 31 : Nat) : Int)] := by
  rw [padF_long _ (by simp <;> omega), padF_long _ (by simp <;> omega), List.take_append_of_le_length h, List.take_append_of_le_length h]
  simp
end Go.Proofs.YtfnamfkjbkhgeaaGreatDoor

namespace Go.Proofs.YtfnamfkjbkhgeaaGreatDoor

open Go.RowKit

theorem grown_set {w : World} {g o : Nat} {v : Value} : w.grownBy (w.setCell ⟨g, o, none⟩ v) (some g) :=
  ⟨rfl, rfl, rfl, by simp [World.setCell], fun k _ hk => Below.heap_setCell w _ v k (by simpa using hk)⟩
theorem grown_drew {w w' : World} {r : Option Nat} (h : w.grownBy w' r) : w.grownBy w'.drew r := ⟨h.os, h.tape, h.output, h.size, h.block⟩
theorem grown_trans {a b c : World} {r : Option Nat} (h : a.grownBy b r) (h' : b.grownBy c r) : a.grownBy c r :=
  ⟨h'.os.trans h.os, h'.tape.trans h.tape, h'.output.trans h.output, Nat.le_trans h.size h'.size, fun k hk hn => (h'.block k (Nat.lt_of_lt_of_le hk h.size) hn).trans (h.block k hk hn)⟩
/-- One digit more. -/
def digF (fs : List Int) (d : Int) : List Int := if fs = [] then [sat1 0 d] else fs.dropLast ++ [sat1 (fs.getLastD 0) d]

set_option maxHeartbeats 1000000 in
theorem digit_any (g : Nat) (fs : List Int) (d : Int) (hd : 0 ≤ d ∧ d ≤ 9) (hf : InF fs) (w : World) (h : Acc w g fs) :
    Calls Tryz.prog 119 #[.pointer (some ⟨g, 0, none⟩), .int .i64 d] w fun e w' => e = .returned (.tuple #[]) ∧ Acc w' g (digF fs d) ∧ w.grownBy w' (some g) := by
  obtain ⟨d0, d1⟩ := hd
  have hb := h.begun
  have f30 := Blk.frozen h 30
  rcases fs.eq_nil_or_concat with rfl | ⟨gs, x, rfl⟩
  · have c0 : w.cell? ⟨g, 0, none⟩ = some (.int .i64 0) := (Blk.cell h 0).trans rfl
    have f0 := Blk.frozen h 0
    have H := Lib.hid h
    change w.cell? ⟨g, 30, none⟩ = some (.int .i64 0) at hb
    clear h
    go_enter Tryz.func119, Tryz.ntmps119
    go_wp2
    go_region
    all_goals
      go_end0
      refine ⟨rfl, ?_, grown_drew (grown_trans grown_set grown_set)⟩
      have h1 := (Blk.set_ H.out 30 (.int .i64 1)).set_ 0 (.int .i64 d)
      rw [acc_list, set_list, set_list] at h1
      have e : sat1 0 d = d := by unfold sat1; omega
      have := acc_first_digit d
      change Blk _ g _ ((((padF [] ++ [((0 : Nat) : Int)]).set 30 1).set 0 d).map (Value.int .i64)).toArray at h1
      rw [this] at h1
      unfold Acc
      rw [show digF [] d = [d] from by simp [digF, e], acc_list]
      exact h1
  · obtain ⟨x0, x1⟩ := hf x (by simp)
    rw [List.concat_eq_append] at h hb
    by_cases hk : gs.length < 30
    · have e31 : ((min (gs ++ [x]).length 31 : Nat) : Int) = (gs.length : Int) + 1 := by simp; omega
      rw [e31] at hb
      have hx : (padF (gs ++ [x]))[gs.length]? = some x := by
        unfold padF
        rw [List.take_of_length_le (by simp; omega), List.getElem?_append_left (by simp), List.getElem?_append_right (by omega)]
        simp
      have c0 : w.cell? ⟨g, gs.length, none⟩ = some (.int .i64 x) := (Blk.cell h _).trans (by rw [acc_at _ _ hk, hx]; rfl)
      have f0 := Blk.frozen h gs.length
      have H := Lib.hid h
      have hE := acc_digit gs x (sat1 x d) hk
      have HE := Lib.hid hE
      clear h hE hx e31
      have hne : gs.length ≠ 30 := by omega
      have HD : Hid (digF (gs.concat x) d = gs ++ [sat1 x d]) := Lib.hid (by simp [digF])
      by_cases hs : x * 10 + d ≤ 65535
      all_goals
        go_enter Tryz.func119, Tryz.ntmps119
        go_wp2
        go_region
        all_goals
          go_end0
          refine ⟨rfl, ?_, grown_drew (grown_trans grown_set grown_set)⟩
          have h1 := (Blk.set_ H.out 30 (.int .i64 ((gs.length : Int) + 1))).set_ gs.length (.int .i64 (sat1 x d))
          rw [acc_list, set_list, set_list, show (gs.length : Int) + 1 = ((gs.length + 1 : Nat) : Int) from by omega, HE.out] at h1
          unfold Acc
          rw [HD.out, acc_list]
          have es : sat1 x d = min (x * 10 + d) 65535 := rfl
          first
            | (rw [show sat1 x d = x * 10 + d from by rw [es]; omega] at h1 ⊢; exact h1)
            | (rw [show sat1 x d = 65535 from by rw [es]; omega] at h1 ⊢; exact h1)
    · have e31 : ((min (gs ++ [x]).length 31 : Nat) : Int) = 31 := by simp; omega
      have H := Lib.hid h
      have HE := Lib.hid (acc_late gs x (sat1 x d) (by omega))
      have HD : Hid (digF (gs.concat x) d = gs ++ [sat1 x d]) := Lib.hid (by simp [digF])
      rw [e31] at hb
      clear h e31
      go_enter Tryz.func119, Tryz.ntmps119
      go_wp2
      go_end0
      refine ⟨rfl, ?_, grown_set⟩
      have h1 := Blk.set_ H.out 30 (.int .i64 31)
      have h2 : (accCells (gs ++ [x])).setIfInBounds 30 (.int .i64 31) = accCells (gs ++ [x]) := by
        have e31 : ((min (gs ++ [x]).length 31 : Nat) : Int) = 31 := by simp; omega
        rw [acc_list, set_list, List.set_append_right _ _ (by rw [padF_len]; omega), padF_len, e31]
        rfl
      rw [h2] at h1
      unfold Acc
      rw [HD.out, acc_list, ← HE.out, ← acc_list]
      exact h1

/-- One semicolon more. -/
def semF (fs : List Int) : List Int := if fs = [] then [0, 0] else fs ++ [0]
set_option maxHeartbeats 1000000 in
theorem semicolon_any (g : Nat) (fs : List Int) (w : World) (h : Acc w g fs) :
    Calls Tryz.prog 120 #[.pointer (some ⟨g, 0, none⟩)] w fun e w' => e = .returned (.tuple #[]) ∧ Acc w' g (semF fs) ∧ w.grownBy w' (some g) := by
  have hb := h.begun
  have f30 := Blk.frozen h 30
  have H := Lib.hid h
  clear h
  by_cases hf : fs = []
  · subst hf
    change w.cell? ⟨g, 30, none⟩ = some (.int .i64 0) at hb
    go_enter Tryz.func120, Tryz.ntmps120
    go_wp2
    go_end0
    refine ⟨rfl, ?_, grown_set⟩
    have h1 := Blk.set_ H.out 30 (.int .i64 2)
    rw [acc_list, set_list] at h1
    change Blk _ g _ (((padF [] ++ [((0 : Nat) : Int)]).set 30 2).map (Value.int .i64)).toArray at h1
    rw [acc_semi_nil] at h1
    unfold Acc
    rw [show semF [] = [0, 0] from rfl, acc_list]
    exact h1
  · have hl : 0 < fs.length := List.length_pos_iff.2 hf
    have HS : Hid (semF fs = fs ++ [0]) := Lib.hid (by simp [semF, hf])
    have HE := Lib.hid (acc_semi fs)
    clear hf
    obtain ⟨m, hm, hm1, hm2⟩ : ∃ m : Nat, m = min fs.length 31 ∧ 1 ≤ m ∧ m ≤ 31 := ⟨_, rfl, by omega, by omega⟩
    rw [← hm] at hb
    have HM := Lib.hid hm
    clear hm hl
    by_cases h31 : m = 31
    · have H31 := Lib.hid h31
      subst h31
      go_enter Tryz.func120, Tryz.ntmps120
      go_wp2
      go_end0
      refine ⟨rfl, ?_, grown_set⟩
      have h1 := Blk.set_ H.out 30 (.int .i64 ((min (fs.length + 1) 31 : Nat) : Int))
      rw [acc_list, set_list, HE.out, show ((min (fs.length + 1) 31 : Nat) : Int) = 31 from by have := HM.out; omega] at h1
      unfold Acc
      rw [HS.out, acc_list]
      exact h1
    · have hlt : m < 31 := by omega
      clear h31
      go_enter Tryz.func120, Tryz.ntmps120
      go_wp2
      go_end0
      refine ⟨rfl, ?_, grown_set⟩
      have h1 := Blk.set_ H.out 30 (.int .i64 ((min (fs.length + 1) 31 : Nat) : Int))
      rw [acc_list, set_list, HE.out, show ((min (fs.length + 1) 31 : Nat) : Int) = (m : Int) + 1 from by have := HM.out; omega] at h1
      unfold Acc
      rw [HS.out, acc_list]
      exact h1

theorem stepF_eq (fs : List Int) (b : UInt8) : stepF fs b = if b = 59 then semF fs else digF fs (dgt b) := rfl
set_option maxHeartbeats 1000000 in
theorem byte_yes (g : Nat) (fs : List Int) (b : UInt8) (hb : okb b = true) (hf : InF fs) (w : World) (h : Acc w g fs) :
    Calls Tryz.prog 90 #[.pointer (some ⟨g, 0, none⟩), .int .u8 b.toNat] w fun e w' => e = .returned (.bool true) ∧ Acc w' g (stepF fs b) ∧ w.grownBy w' (some g) := by
  have HH := Lib.hid h
  by_cases h59 : b = 59
  · subst h59
    have HC := Lib.hid (semicolon_any g fs w h)
    clear h
    go_enter Tryz.func90, Tryz.ntmps90
    go_wp2_with (go_at_call 120; refine HC.out.mono ?_; rintro e w1 ⟨rfl, h1, h2⟩)
    go_ret
    exact ⟨rfl, h1, h2⟩
  · obtain ⟨b0, b1⟩ := okb_digit hb h59
    have HS := Lib.hid (stepF_eq fs b)
    rw [if_neg h59] at HS
    have HC := Lib.hid (digit_any g fs (dgt b) (by unfold dgt; omega) hf w h)
    have HD : Hid (dgt b = (b.toNat : Int) - 48) := Lib.hid rfl
    have e1 : IntKind.u8.wrap ((b.toNat : Int) - 48) = (b.toNat : Int) - 48 := by rw [IntKind.wrap_u8]; omega
    generalize dgt b = d at *
    generalize stepF fs b = fs2 at *
    clear h h59 hb
    generalize b.toNat = n at *
    go_enter Tryz.func90, Tryz.ntmps90
    go_wp2_with fail
    rw [← HD.out]
    refine HC.out.mono ?_
    rintro e w1 ⟨rfl, h1, h2⟩
    go_wp2
    go_ret
    exact ⟨rfl, by rw [HS.out]; exact h1, h2⟩

set_option maxHeartbeats 1000000 in
theorem byte_no (g : Nat) (b : UInt8) (hb : okb b = false) (w : World) :
    Calls Tryz.prog 90 #[.pointer (some ⟨g, 0, none⟩), .int .u8 b.toNat] w fun e w' => e = .returned (.bool false) ∧ w = w' := by
  have h : b.toNat ≠ 59 ∧ (b.toNat < 48 ∨ 57 < b.toNat) := by
    have hlt := b.toNat_lt
    simp [okb, UInt8.le_iff_toNat_le] at hb
    refine ⟨fun e => hb.1 (UInt8.toNat_inj.1 e), ?_⟩
    have := hb.2
    omega
  generalize b.toNat = n at *
  obtain ⟨h1, h2⟩ := h
  have h59 : ((n : Int) == 59) = false := by simp; omega
  clear h1 hb
  rcases h2 with h2 | h2
  · have hd : decide ((n : Int) ≥ 48) = false := by simp; omega
    go_enter Tryz.func90, Tryz.ntmps90
    go_wp2_with fail
    go_ret
    exact ⟨rfl, rfl⟩
  · have hd : decide ((n : Int) ≤ 57) = false := by simp; omega
    go_enter Tryz.func90, Tryz.ntmps90
    go_wp2_with fail
    go_ret
    exact ⟨rfl, rfl⟩
end Go.Proofs.YtfnamfkjbkhgeaaGreatDoor

namespace Go.Proofs.YtfnamfkjbkhgeaaGreatDoor

open Go.RowKit

theorem own_blkP {w : World} {base g n : Nat} {e : TypeId} {xs : List Value} (h : w.ownsRow base e 1 (.slice (some ⟨g, 0, none⟩) n n) n xs) : Blk w g e xs.toArray := by
  rcases h.2 with ⟨hv, _⟩ | ⟨g', cap, cur, hv, _, hg, _, _, hs, ht⟩
  · cases hv
  · simp only [Value.slice.injEq, Option.some.injEq, Addr.mk.injEq, and_true, true_and] at hv
    obtain ⟨rfl, rfl⟩ := hv
    have : cur.toList = xs := by rw [← ht]; exact (List.take_of_length_le (by simp; omega)).symm
    unfold Blk
    rw [hg, ← this]
theorem blk_own {w : World} {base g : Nat} {ns : List Int} (h : Blk w g 3 (ns.map (Value.int .i64)).toArray) (hb : base ≤ g) (hn : ns.length ≤ maxLen) : OInts w base (.slice (some ⟨g, 0, none⟩) ns.length ns.length) ns :=
  ⟨by simp, .inr ⟨g, ns.length, _, rfl, hb, h, Nat.le_refl _, hn, by simp, by simp [List.take_of_length_le]⟩⟩
theorem own_base {w : World} {b b' size n : Nat} {e : TypeId} {v : Value} {xs : List Value} (h : w.ownsRow b e size v n xs) (hb : b' ≤ b) : w.ownsRow b' e size v n xs := by
  refine ⟨h.1, ?_⟩
  rcases h.2 with h | ⟨g, cap, cur, hv, hg, r⟩
  · exact .inl h
  · exact .inr ⟨g, cap, cur, hv, Nat.le_trans hb hg, r⟩
theorem below_grown_none {B : Nat} {w w' : World} (h : w.grownBy w' none) (hB : B ≤ w.heap.size) : Below B w w' := (Below.refl _ _).grown h hB (fun k hk => by cases hk)

theorem add_here (g j : Nat) : (⟨g, 0, none⟩ : Addr).add j = ⟨g, j, none⟩ := by unfold Addr.add; split <;> simp_all
theorem splice_all {α : Type} (L cs : List α) (h : cs.length = L.length) : splice L 0 cs = cs := by simp [splice, h]
theorem ints_one (ns : List Int) : ∀ v ∈ ns.map (Value.int .i64), v.oneCell' = true := by
  intro v hv
  obtain ⟨n, _, rfl⟩ := List.mem_map.1 hv
  rfl
set_option maxRecDepth 100000 in
set_option maxHeartbeats 1000000 in
theorem list_any (g : Nat) (fs : List Int) (w : World) (h : Acc w g fs) :
    Calls Tryz.prog 91 #[.pointer (some ⟨g, 0, none⟩)] w fun e w' => ∃ v, e = .returned v ∧ OInts w' w.heap.size v (fs.take 30) ∧ Below w.heap.size w w' := by
  have hb := h.begun
  have hlt := Blk.lt h
  have hrow : ∀ j, j < 30 → w.cell? ⟨g, j, none⟩ = (padF fs)[j]?.map (Value.int .i64) := fun j hj => (Blk.cell h j).trans (acc_at fs j hj)
  have HR := Lib.hid hrow
  clear h hrow
  obtain ⟨i0, hi0, hz0, hz1, hz2⟩ := info_parts info_int
  have HI := Lib.hid hi0; have HZ0 := Lib.hid hz0; have HZ1 := Lib.hid hz1; have HZ2 := Lib.hid hz2
  clear hi0 hz0 hz1 hz2
  obtain ⟨ns, hns⟩ : ∃ ns, ns = fs.take 30 := ⟨_, rfl⟩
  rw [← hns]
  obtain ⟨n, hn, hn30⟩ : ∃ n : Nat, n = ns.length ∧ n ≤ 30 := ⟨_, rfl, by rw [hns]; simp; omega⟩
  have HN := Lib.hid hn
  have HTake : Hid (∀ j v, (ns.map (Value.int .i64))[j]? = some v → j < 30 ∧ (padF fs)[j]?.map (Value.int .i64) = some v) := Lib.hid (fun j v hj => by
    rw [hns] at hj
    have hj' : j < (fs.take 30).length := by
      rcases Nat.lt_or_ge j (fs.take 30).length with h' | h'
      · exact h'
      · rw [List.getElem?_eq_none (by simpa using h')] at hj; cases hj
    refine ⟨by simp at hj'; omega, ?_⟩
    rw [← hj, List.getElem?_map]
    unfold padF
    rw [List.getElem?_append_left hj'])
  clear hn
  have hm : (∃ m : Nat, min fs.length 31 = m ∧ m ≤ 30 ∧ m = n) ∨ (min fs.length 31 = 31 ∧ n = 30) := by
    have := HN.out
    rw [hns] at this
    simp at this
    by_cases hl : fs.length ≤ 30
    · exact .inl ⟨_, rfl, by omega, by omega⟩
    · exact .inr (by omega)
  clear hns
  rcases hm with ⟨m, hm, hm30, rfl⟩ | ⟨hm, rfl⟩
  all_goals
    rw [hm] at hb
    clear hm
    go_enter Tryz.func91, Tryz.ntmps91
    go_wp2_with (first
      | (at_make; (first | refine wpList_make_full _ rfl _ _ 64 rfl w.heap.size 3 i0 (.int .i64 0) 1 Tryz.underlying64 HI.out HZ0.out HZ1.out _ _ _ _ m rfl rfl rfl rfl (by rw [HZ2.out]; omega) (by unfold maxLen; omega) (Nat.le_refl _) ?_ | refine wpList_make_full _ rfl _ _ 64 rfl w.heap.size 3 i0 (.int .i64 0) 1 Tryz.underlying64 HI.out HZ0.out HZ1.out _ _ _ _ 30 rfl rfl rfl rfl (by rw [HZ2.out]; omega) (by unfold maxLen; omega) (Nat.le_refl _) ?_); intro w1 hown hgr; have HOwn := Lib.hid hown; have HB1 := Lib.hid (below_grown_none hgr (Nat.le_refl _)); clear hown hgr)
      | (refine wpList_copy_splice (o := ⟨some 15, _, _, _, _, _⟩) rfl (.tmp 10) (.tmp 14) 64 64 rfl 3 Tryz.underlying64 (by kernel_rfl) _ _ _ _ _ _ rfl rfl w.heap.size 0 _ 3 (own_blkP HOwn.out) (ns.map (Value.int .i64)) (by rw [List.length_map, ← HN.out]; exact (Nat.min_eq_right (by omega)).symm) (fun _ => ⟨rfl, ⟨g, 0, none⟩, rfl, fun j v hv => by rw [add_here, HB1.out.cell (p := ⟨g, j, none⟩) hlt, HR.out j (HTake.out j v hv).1]; exact (HTake.out j v hv).2⟩) (by rw [List.length_map, ← HN.out]; simp [madeCells]) (ints_one _) w.heap.size w HB1.out (Nat.le_refl _) ?_; intro w2 hblk2 hb2))
    go_ret
    have h2 := hblk2.out
    rw [splice_all _ _ (by rw [List.length_map, ← HN.out]; simp [madeCells])] at h2
    have h3 := blk_own h2 (Nat.le_refl _) (by rw [← HN.out]; unfold maxLen; omega)
    rw [← HN.out] at h3
    exact ⟨_, rfl, h3, hb2⟩
end Go.Proofs.YtfnamfkjbkhgeaaGreatDoor

namespace Go.Proofs.YtfnamfkjbkhgeaaGreatDoor

open Go.RowKit

set_option maxHeartbeats 1000000 in
theorem parse_yes (s : ByteArray) (hs : s.size ≤ maxLen) (hok : OkB s.data.toList) (w : World) :
    Calls Tryz.prog 49 #[.string s] w fun e w' => ∃ v, e = .returned (.tuple #[v, .int .i64 0]) ∧ OInts w' w.heap.size v (numsOf s.data.toList) ∧ Below w.heap.size w w' := by
  unfold maxLen at hs
  have HOk := Lib.hid hok
  clear hok
  go_enter Tryz.func49, Tryz.ntmps49
  go_wp2_with fail
  go_loopw [8] (fun i wr => ∃ k : Nat, k ≤ s.size ∧ i = .int .i64 k ∧ Acc wr w.heap.size (fieldsOf (s.data.toList.take k)) ∧ Below w.heap.size w wr) (fun i _ => s.size - (intOf i).toNat)
  case atStart => exact ⟨0, by omega, rfl, Blk.new _ _ _, (Below.refl _ _).alloc (Nat.le_refl _) _⟩
  case round =>
    obtain ⟨k, hk, rfl, hacc, hb⟩ := hrel
    by_cases hlt : k < s.size
    · have hin : InF (fieldsOf (s.data.toList.take k)) := fieldsOf_range (fun b hb => HOk.out b (List.mem_of_mem_take hb))
      have hbk : okb s[k] = true := HOk.out _ (by show s.data[k] ∈ _; simp)
      have HS : Hid (fieldsOf (s.data.toList.take (k + 1)) = stepF (fieldsOf (s.data.toList.take k)) s[k]) := Lib.hid (by
        rw [take_snoc _ k (by simpa using hlt), fieldsOf_snoc]; rfl)
      have HC := Lib.hid (byte_yes w.heap.size _ _ hbk hin wr hacc)
      clear hin hbk hacc
      generalize fieldsOf (s.data.toList.take k) = fs at *
      generalize stepF fs s[k] = gs at *
      go_wp2_with (go_at_call 90; refine HC.out.mono ?_; rintro e w1 ⟨rfl, h1, h2⟩)
      go_roundw
      case rel => exact ⟨k + 1, by omega, by go_num, by rw [HS.out]; exact h1, hb.grown h2 hb.size (fun k hk => Nat.le_of_eq (Option.some.inj hk))⟩
      case measure => simp [intOf]; omega
    · obtain rfl : k = s.size := by omega
      have HL := Lib.hid (list_any _ _ _ hacc)
      clear hacc
      have HN : Hid ((fieldsOf (s.data.toList.take s.size)).take 30 = numsOf s.data.toList) := Lib.hid (by rw [show s.data.toList.take s.size = s.data.toList from List.take_of_length_le (by show s.data.toList.length ≤ s.data.size; simp)]; rfl)
      go_wp2_with (go_at_call 91; refine HL.out.mono ?_; rintro e w1 ⟨v, rfl, h1, h2⟩)
      go_ret2
      rw [HN.out] at h1
      exact ⟨_, rfl, own_base h1 hb.size, hb.trans (h2.mono hb.size)⟩

theorem first_bad (l : List UInt8) (h : ¬ OkB l) : ∃ k, ∃ hk : k < l.length, okb l[k] = false ∧ OkB (l.take k) := by
  induction l with
  | nil => exact absurd (fun b hb => by simp at hb) h
  | cons b l ih =>
    by_cases hb : okb b = true
    · have h' : ¬ OkB l := fun hl => h (fun x hx => by
        rcases List.mem_cons.1 hx with rfl | hx
        · exact hb
        · exact hl x hx)
      obtain ⟨k, hk, h1, h2⟩ := ih h'
      exact ⟨k + 1, by simp; omega, by simpa using h1, fun x hx => by
        rw [List.take_succ_cons] at hx
        rcases List.mem_cons.1 hx with rfl | hx
        · exact hb
        · exact h2 x hx⟩
    · exact ⟨0, by simp, by simpa using hb, fun x hx => by simp at hx⟩

set_option maxHeartbeats 1000000 in
theorem parse_no (s : ByteArray) (hs : s.size ≤ maxLen) (hno : ¬ OkB s.data.toList) (w : World) :
    Calls Tryz.prog 49 #[.string s] w fun e w' => e = .returned (.tuple #[.slice none 0 0, .int .i64 3]) ∧ Below w.heap.size w w' := by
  unfold maxLen at hs
  obtain ⟨K, hK', hbad, hok⟩ := first_bad _ hno
  have hK : K < s.size := by simpa using hK'
  have hbad' : okb s[K] = false := hbad
  have HOk := Lib.hid hok
  have HBad := Lib.hid hbad'
  clear hok hno hbad hbad' hK'
  go_enter Tryz.func49, Tryz.ntmps49
  go_wp2_with fail
  go_loopw [8] (fun i wr => ∃ k : Nat, k ≤ K ∧ i = .int .i64 k ∧ Acc wr w.heap.size (fieldsOf (s.data.toList.take k)) ∧ Below w.heap.size w wr) (fun i _ => s.size - (intOf i).toNat)
  case atStart => exact ⟨0, by omega, rfl, Blk.new _ _ _, (Below.refl _ _).alloc (Nat.le_refl _) _⟩
  case round =>
    obtain ⟨k, hk, rfl, hacc, hb⟩ := hrel
    by_cases hlt : k < K
    · have hks : k < s.size := by omega
      have hpre : OkB (s.data.toList.take k) := fun b hb => HOk.out b (by
        have e : s.data.toList.take k = (s.data.toList.take K).take k := by rw [List.take_take, Nat.min_eq_left (by omega)]
        rw [e] at hb; exact List.mem_of_mem_take hb)
      have hin : InF (fieldsOf (s.data.toList.take k)) := fieldsOf_range hpre
      have hbk : okb s[k] = true := HOk.out _ (by
        have hkl : k < (s.data.toList.take K).length := by simp; omega
        have e : (s.data.toList.take K)[k] = s[k] := by simp; rfl
        rw [← e]; exact List.getElem_mem hkl)
      have HS : Hid (fieldsOf (s.data.toList.take (k + 1)) = stepF (fieldsOf (s.data.toList.take k)) s[k]) := Lib.hid (by
        rw [take_snoc _ k (by simpa using hks), fieldsOf_snoc]; rfl)
      have HC := Lib.hid (byte_yes w.heap.size _ _ hbk hin wr hacc)
      clear hin hbk hacc hpre
      generalize fieldsOf (s.data.toList.take k) = fs at *
      generalize stepF fs s[k] = gs at *
      go_wp2_with (go_at_call 90; refine HC.out.mono ?_; rintro e w1 ⟨rfl, h1, h2⟩)
      go_roundw
      case rel => exact ⟨k + 1, by omega, by go_num, by rw [HS.out]; exact h1, hb.grown h2 hb.size (fun k hk => Nat.le_of_eq (Option.some.inj hk))⟩
      case measure => simp [intOf]; omega
    · obtain rfl : k = K := by omega
      have HC := Lib.hid (byte_no w.heap.size _ HBad.out wr)
      clear hacc
      go_wp2_with (go_at_call 90; refine HC.out.mono ?_; rintro e w1 ⟨rfl, rfl⟩)
      go_ret2
      exact ⟨rfl, hb⟩
end Go.Proofs.YtfnamfkjbkhgeaaGreatDoor

namespace Go.Proofs.YtfnamfkjbkhgeaaGreatDoor

open Go.RowKit

/-- The number of the digits so far, where it stops growing. -/
theorem sat_snoc (l : List UInt8) (k : Nat) (h : k < l.length) : sat (l.take (k + 1)) = sat1 (sat (l.take k)) (dgt l[k]) := by
  unfold sat; rw [take_snoc l k h, List.foldl_append]; rfl
theorem sat_stop (l : List UInt8) (h : ∀ b ∈ l, 48 ≤ b.toNat ∧ b.toNat ≤ 57) (k : Nat) (hk : sat (l.take k) = 65535) : sat l = 65535 := by
  have key : ∀ m : List UInt8, (∀ b ∈ m, 48 ≤ b.toNat ∧ b.toNat ≤ 57) → m.foldl (fun n b => sat1 n (dgt b)) 65535 = 65535 := by
    intro m
    induction m with
    | nil => intro _; rfl
    | cons b m ih =>
      intro hm
      have hb := hm b (by simp)
      have : sat1 65535 (dgt b) = 65535 := by unfold sat1 dgt; omega
      rw [List.foldl_cons, this]
      exact ih (fun c hc => hm c (by simp [hc]))
  have e : l = l.take k ++ l.drop k := (List.take_append_drop k l).symm
  rw [e]; unfold sat; rw [List.foldl_append]
  have hk' : (l.take k).foldl (fun n b => sat1 n (dgt b)) 0 = 65535 := hk
  rw [hk']
  exact key _ (fun b hb => h b (List.mem_of_mem_drop hb))
theorem sat_range (l : List UInt8) (h : ∀ b ∈ l, 48 ≤ b.toNat ∧ b.toNat ≤ 57) : 0 ≤ sat l ∧ sat l ≤ 65535 := by
  have key : ∀ (m : List UInt8) (x : Int), 0 ≤ x → x ≤ 65535 → (∀ b ∈ m, 48 ≤ b.toNat ∧ b.toNat ≤ 57) → 0 ≤ m.foldl (fun n b => sat1 n (dgt b)) x ∧ m.foldl (fun n b => sat1 n (dgt b)) x ≤ 65535 := by
    intro m
    induction m with
    | nil => intro x h0 h1 _; exact ⟨h0, h1⟩
    | cons b m ih =>
      intro x h0 h1 hm
      have hb := hm b (by simp)
      have := sat1_range (n := x) (d := dgt b) h0 (by unfold dgt; omega)
      exact ih _ this.1 this.2 (fun c hc => hm c (by simp [hc]))
  exact key l 0 (by omega) (by omega) h

set_option maxHeartbeats 1000000 in
theorem number_any (s : ByteArray) (hs : s.size ≤ maxLen) (hd : ∀ b ∈ s.data.toList, 48 ≤ b.toNat ∧ b.toNat ≤ 57) (w : World) :
    Calls Tryz.prog 117 #[.string s] w fun e w' => e = .returned (.int .i64 (sat s.data.toList)) ∧ w = w' := by
  unfold maxLen at hs
  have HD := Lib.hid hd
  clear hd
  go_enter Tryz.func117, Tryz.ntmps117
  go_wp2_with fail
  go_loop [3, 4] (fun n i => ∃ k : Nat, k ≤ s.size ∧ i = .int .i64 k ∧ n = .int .i64 (sat (s.data.toList.take k))) (fun _ i => s.size - (intOf i).toNat)
  case atStart => exact ⟨0, by omega, rfl, rfl⟩
  case round =>
    obtain ⟨k, hk, rfl, rfl⟩ := hrel
    by_cases hlt : k < s.size
    · have hl : k < s.data.toList.length := by simpa using hlt
      have HS := Lib.hid (sat_snoc s.data.toList k hl)
      have HStop := Lib.hid (sat_stop s.data.toList HD.out (k + 1))
      obtain ⟨r0, r1⟩ := sat_range (s.data.toList.take k) (fun b hb => HD.out b (List.mem_of_mem_take hb))
      have hb := HD.out s.data.toList[k] (List.getElem_mem hl)
      have eb : s.data.toList[k] = s[k] := by simp; rfl
      rw [eb] at hb HS
      have HG : Hid (dgt s[k] = (s[k].toNat : Int) - 48) := Lib.hid rfl
      obtain ⟨b0, b1⟩ := hb
      clear eb
      generalize sat (s.data.toList.take k) = x at *
      generalize dgt s[k] = d at *
      have e1 : ((s[k].toNat : Int) - 48) % 256 = (s[k].toNat : Int) - 48 := by omega
      by_cases hgt : 65535 < 10 * x + ((s[k].toNat : Int) - 48)
      · go_wp2_with fail
        go_ret
        exact ⟨ret_int (by rw [HStop.out (by rw [HS.out]; unfold sat1; have := HG.out; omega)]), rfl⟩
      · go_wp2_with fail
        go_round
        case rel => exact ⟨k + 1, by omega, by go_num, by rw [HS.out, show sat1 x d = 10 * x + ((s[k].toNat : Int) - 48) from by unfold sat1; have := HG.out; omega]⟩
        case measure => simp [intOf]; omega
    · obtain rfl : k = s.size := by omega
      go_wp2_with fail
      go_ret
      exact ⟨ret_int (by rw [List.take_of_length_le (by show s.data.toList.length ≤ s.data.size; simp)]), rfl⟩
end Go.Proofs.YtfnamfkjbkhgeaaGreatDoor

namespace Go.Proofs.YtfnamfkjbkhgeaaGreatDoor

open Go.RowKit

/-- The fields, at least one. -/
def fieldsP (p : List UInt8) : List Int := if p = [] then [0] else fieldsOf p
/-- The piece from b on, ahead of k. -/
def seg (l : List UInt8) (b k : Nat) : List UInt8 := (l.drop b).take (k - b)
theorem seg_self (l : List UInt8) (b : Nat) : seg l b b = [] := by simp [seg]
theorem seg_snoc (l : List UInt8) (b k : Nat) (hb : b ≤ k) (hk : k < l.length) : seg l b (k + 1) = seg l b k ++ [l[k]] := by
  unfold seg
  rw [show k + 1 - b = (k - b) + 1 from by omega, take_snoc _ (k - b) (by simp; omega)]
  congr 2
  rw [List.getElem_drop]
  congr 1
  omega
/-- What holds of the pieces that are done, and of where the next begins. -/
def PieceAt (l : List UInt8) (k : Nat) (comp : List Int) (b : Nat) : Prop := b ≤ k ∧ (∀ c ∈ seg l b k, c ≠ 59) ∧ fieldsP (l.take k) = comp ++ [sat (seg l b k)]
theorem piece_start (l : List UInt8) : PieceAt l 0 [] 0 := ⟨Nat.le_refl _, by simp [seg], by simp [seg, fieldsP, sat]⟩
theorem fieldsP_snoc (p : List UInt8) (c : UInt8) : fieldsP (p ++ [c]) = stepF (fieldsOf p) c := by simp [fieldsP, fieldsOf_snoc]
theorem piece_digit (l : List UInt8) (k : Nat) (hk : k < l.length) (h59 : l[k] ≠ 59) (comp : List Int) (b : Nat) (h : PieceAt l k comp b) : PieceAt l (k + 1) comp b := by
  obtain ⟨h1, h2, h3⟩ := h
  refine ⟨by omega, fun c hc => ?_, ?_⟩
  · rw [seg_snoc l b k h1 hk] at hc
    rcases List.mem_append.1 hc with hc | hc
    · exact h2 c hc
    · simp at hc; rw [hc]; exact h59
  · rw [take_snoc l k hk, fieldsP_snoc, seg_snoc l b k h1 hk]
    have hs : sat (seg l b k ++ [l[k]]) = sat1 (sat (seg l b k)) (dgt l[k]) := by unfold sat; rw [List.foldl_append]; rfl
    rw [hs]
    unfold fieldsP at h3
    split at h3
    · rename_i hp
      rw [hp]
      have hc : comp = [] := by
        cases comp with
        | nil => rfl
        | cons x xs => simp at h3
      subst hc
      have h0 : sat (seg l b k) = 0 := by simpa using h3.symm
      rw [h0]
      exact stepF_digit_nil h59
    · rw [h3, stepF_digit _ _ h59]
theorem piece_semi (l : List UInt8) (k : Nat) (hk : k < l.length) (h59 : l[k] = 59) (comp : List Int) (b : Nat) (h : PieceAt l k comp b) : PieceAt l (k + 1) (comp ++ [sat (seg l b k)]) (k + 1) := by
  obtain ⟨h1, h2, h3⟩ := h
  refine ⟨Nat.le_refl _, by simp [seg], ?_⟩
  rw [take_snoc l k hk, fieldsP_snoc, h59, seg_self, ← h3]
  unfold fieldsP
  split
  · rename_i hp; rw [hp]; rfl
  · rename_i hp; rw [stepF_semi (fieldsOf_ne hp)]; rfl
theorem piece_end (l : List UInt8) (comp : List Int) (b : Nat) (h : PieceAt l l.length comp b) : comp ++ [sat (seg l b l.length)] = fieldsP l := by
  have := h.2.2
  rw [List.take_length] at this
  exact this.symm
/-- The pieces that are kept. -/
theorem keep_more (comp : List Int) (x : Int) (h : (comp.take 30).length < 30) : comp.take 30 ++ [x] = (comp ++ [x]).take 30 := by
  have : comp.length < 30 := by simp at h; omega
  rw [List.take_of_length_le (by omega), List.take_of_length_le (by simp; omega)]
theorem keep_full (comp : List Int) (x : Int) (h : ¬ (comp.take 30).length < 30) : comp.take 30 = (comp ++ [x]).take 30 := by
  have : 30 ≤ comp.length := by simp at h; omega
  rw [List.take_append_of_le_length (by omega)]
end Go.Proofs.YtfnamfkjbkhgeaaGreatDoor

/-
  What a report of stops says: numbers with slashes between; the walks that read one number, and that cut a text at its first slash.
-/
import Derived.Test.YtnfdgioapbkonaaDoorTabH
import Derived.Lib.Bytealg
import Derived.Lib.Strings
import Derived.Laws.Externs
import Derived.Laws.Strings3
namespace Go.Proofs.YtnfdgioapbkonaaDoor

open Go Go.RowKit

theorem data_len (s : ByteArray) : s.data.toList.length = s.size := by show s.data.toList.length = s.data.size; simp
theorem data_at (s : ByteArray) (k : Nat) (hk : k < s.size) : s.data.toList[k]'(by rw [data_len]; exact hk) = s[k] := by simp; rfl
def dgt (c : UInt8) : Bool := decide (48 ≤ c.toNat ∧ c.toNat ≤ 57)
def accN (n : Nat) (c : UInt8) : Nat := min (n * 10 + (c.toNat - 48)) 501
theorem accN_le (n : Nat) (c : UInt8) : accN n c ≤ 501 := Nat.min_le_right _ _
/-- The number that digits say. -/
def numF (l : List UInt8) : Nat := l.foldl accN 0
def mark (out : List Bool) (n : Nat) : List Bool := if 1 ≤ n ∧ n ≤ out.length then out.set (n - 1) true else out
theorem mark_len (out : List Bool) (n : Nat) : (mark out n).length = out.length := by unfold mark; split <;> simp
theorem mark_put (out : List Bool) (n : Nat) : mark out n = putP out ((n : Int) - 1) true := by
  unfold mark putP
  by_cases h : 1 ≤ n ∧ n ≤ out.length
  · rw [if_pos h, if_pos (by omega), show ((n : Int) - 1).toNat = n - 1 from by omega]
  · rw [if_neg h, if_neg (by omega)]
def rstG : List UInt8 → Nat → Bool → List Bool → Option (List Bool)
  | [], n, d, out => if d then some (mark out n) else none
  | c :: cs, n, d, out => if dgt c then rstG cs (accN n c) true out else if c = 47 ∧ d = true then rstG cs 0 false (mark out n) else none
/-- What a report makes of so many columns. -/
def rstP (s : List UInt8) (L : Nat) : Option (List Bool) := if s = [] then some (List.replicate L false) else rstG s 0 false (List.replicate L false)
theorem rstG_len : ∀ (s : List UInt8) n d out r, rstG s n d out = some r → r.length = out.length
  | [], n, d, out, r, h => by
    unfold rstG at h
    split at h
    · injection h with h; rw [← h, mark_len]
    · cases h
  | c :: cs, n, d, out, r, h => by
    unfold rstG at h
    split at h
    · exact rstG_len cs _ _ _ _ h
    · split at h
      · rw [rstG_len cs _ _ _ _ h, mark_len]
      · cases h
theorem rstP_len (s : List UInt8) (L : Nat) (r : List Bool) (h : rstP s L = some r) : r.length = L := by
  unfold rstP at h
  split at h
  · injection h with h; rw [← h]; simp
  · rw [rstG_len _ _ _ _ _ h]; simp
theorem rstG_run : ∀ (ds tail : List UInt8) n d out, (∀ b ∈ ds, dgt b = true) → rstG (ds ++ tail) n d out = rstG tail (ds.foldl accN n) (d || !ds.isEmpty) out
  | [], tail, n, d, out, _ => by simp
  | c :: cs, tail, n, d, out, h => by
    rw [List.cons_append]
    unfold rstG
    rw [if_pos (h c (by simp)), rstG_run cs tail _ _ out (fun b hb => h b (by simp [hb]))]
    simp
    cases tail <;> rfl
theorem rstG_bad : ∀ (ds tail : List UInt8) n d out, (∀ b ∈ ds, b ≠ 47) → (∃ b ∈ ds, dgt b = false) → rstG (ds ++ tail) n d out = none
  | [], tail, n, d, out, _, h => by obtain ⟨b, hb, _⟩ := h; cases hb
  | c :: cs, tail, n, d, out, h, h2 => by
    rw [List.cons_append]
    unfold rstG
    by_cases hc : dgt c = true
    · rw [if_pos hc]
      refine rstG_bad cs tail _ _ out (fun b hb => h b (by simp [hb])) ?_
      obtain ⟨b, hb, hd⟩ := h2
      rcases List.mem_cons.1 hb with rfl | hb
      · rw [hc] at hd; cases hd
      · exact ⟨b, hb, hd⟩
    · rw [if_neg hc, if_neg (fun e => h c (by simp) e.1)]
/-- One number, read whole. -/
def numOk (ds : List UInt8) : Prop := ds ≠ [] ∧ ∀ b ∈ ds, dgt b = true
theorem rst_one (ds : List UInt8) (out : List Bool) (hs : ∀ b ∈ ds, b ≠ 47) :
    (numOk ds → rstG ds 0 false out = some (mark out (numF ds))) ∧ (¬ numOk ds → rstG ds 0 false out = none) := by
  constructor
  · intro ⟨h1, h2⟩
    have := rstG_run ds [] 0 false out h2
    rw [List.append_nil] at this
    rw [this]
    cases ds with
    | nil => exact absurd rfl h1
    | cons a b => rfl
  · intro h
    by_cases h0 : ds = []
    · subst h0; rfl
    · have := rstG_bad ds [] 0 false out hs (Classical.byContradiction fun hn => h ⟨h0, fun b hb => by
        rcases hd : dgt b with _ | _
        · exact absurd ⟨b, hb, hd⟩ hn
        · rfl⟩)
      rw [List.append_nil] at this
      exact this
theorem rst_more (ds rest : List UInt8) (out : List Bool) (hs : ∀ b ∈ ds, b ≠ 47) :
    (numOk ds → rstG (ds ++ 47 :: rest) 0 false out = rstG rest 0 false (mark out (numF ds))) ∧ (¬ numOk ds → rstG (ds ++ 47 :: rest) 0 false out = none) := by
  constructor
  · intro ⟨h1, h2⟩
    rw [rstG_run ds _ 0 false out h2]
    cases ds with
    | nil => exact absurd rfl h1
    | cons a b =>
      conv => lhs; unfold rstG
      rw [if_neg (by decide)]
      rw [if_pos ⟨rfl, rfl⟩]
      rfl
  · intro h
    by_cases h0 : ds = []
    · subst h0
      rw [List.nil_append]
      conv => lhs; unfold rstG
      rw [if_neg (by decide), if_neg (fun e => by cases e.2)]
    · exact rstG_bad ds _ 0 false out hs (Classical.byContradiction fun hn => h ⟨h0, fun b hb => by
        rcases hd : dgt b with _ | _
        · exact absurd ⟨b, hb, hd⟩ hn
        · rfl⟩)
theorem idx_cases (l : List UInt8) : (Lib.indexByte l 47 = -1 ∧ ∀ b ∈ l, b ≠ 47) ∨ ∃ i : Nat, Lib.indexByte l 47 = i ∧ i < l.length ∧ l = l.take i ++ 47 :: l.drop (i + 1) ∧ ∀ b ∈ l.take i, b ≠ 47 := by
  induction l with
  | nil => exact .inl ⟨rfl, by simp⟩
  | cons c l ih =>
    by_cases hc : c = 47
    · subst hc
      exact .inr ⟨0, by simp [Lib.indexByte], by simp, by simp, by simp⟩
    · have hb : (c == 47) = false := by simpa using hc
      rcases ih with ⟨h1, h2⟩ | ⟨i, h1, h2, h3, h4⟩
      · refine .inl ⟨by simp [Lib.indexByte, hb, h1], fun b hm => ?_⟩
        rcases List.mem_cons.1 hm with rfl | hm
        · exact hc
        · exact h2 b hm
      · refine .inr ⟨i + 1, ?_, by simp; omega, ?_, fun b hm => ?_⟩
        · have : ((i : Int) == -1) = false := by rw [beq_eq_false_iff_ne]; omega
          simp [Lib.indexByte, hb, h1, this]
        · rw [List.take_succ_cons, List.drop_succ_cons, List.cons_append, ← h3]
        · rw [List.take_succ_cons] at hm
          rcases List.mem_cons.1 hm with rfl | hm
          · exact hc
          · exact h4 b hm

theorem fold_le (l : List UInt8) : numF l ≤ 501 := by
  unfold numF
  rcases List.eq_nil_or_concat l with rfl | ⟨a, b, rfl⟩
  · decide
  · rw [List.concat_eq_append, List.foldl_append]; exact accN_le _ _
set_option maxHeartbeats 2000000 in
theorem number_yes (s : ByteArray) (hs : s.size ≤ 100000) (hok : numOk s.data.toList) (w : World) :
    Calls Tryd.prog 31 #[.string s] w fun e w' => e = .returned (.tuple #[.int .i64 (numF s.data.toList : Nat), .bool true]) ∧ w = w' := by
  have hse : s.toList.isEmpty = false := by
    rw [ByteArray.toList_eq]
    cases h : s.data.toList with
    | nil => exact absurd h hok.1
    | cons a b => rfl
  have HOk := Lib.hid hok
  clear hok
  go_enter Tryd.func31, Tryd.ntmps31
  go_wp2_with fail
  go_loop [4, 9] (fun v i => ∃ k : Nat, k ≤ s.size ∧ i = .int .i64 k ∧ v = .int .i64 (numF (s.data.toList.take k) : Nat)) (fun _ i => s.size - (intOf i).toNat)
  case atStart => exact ⟨0, by omega, rfl, rfl⟩
  case round =>
    obtain ⟨k, hk, rfl, rfl⟩ := hrel
    by_cases hlt : k < s.size
    · have hb := HOk.out.2 s[k] (by rw [← data_at s k hlt]; exact List.getElem_mem _)
      unfold dgt at hb
      simp at hb
      have hd1 : decide ((s[k].toNat : Int) < 48) = false := by simp; omega
      have hd2 : decide ((s[k].toNat : Int) > 57) = false := by simp; omega
      have HS : Hid (numF (s.data.toList.take (k + 1)) = accN (numF (s.data.toList.take k)) s[k]) := Lib.hid (by
        unfold numF
        rw [foldl_snoc _ _ _ k (by rw [data_len]; exact hlt), data_at s k hlt])
      have hle := fold_le (s.data.toList.take k)
      have HA : Hid ((accN (numF (s.data.toList.take k)) s[k] : Int) = min ((numF (s.data.toList.take k) : Nat) * 10 + ((s[k].toNat : Int) - 48)) 501) := Lib.hid (by unfold accN; omega)
      generalize accN (numF (s.data.toList.take k)) s[k] = y at *
      generalize numF (s.data.toList.take k) = x at *
      go_wp2_with fail
      all_goals
        go_round
        case rel => exact ⟨k + 1, by omega, by go_num, by rw [HS.out]; have := HA.out; congr 1; omega⟩
        case measure => simp [intOf]; omega
    · obtain rfl : k = s.size := by omega
      have HT : Hid (numF (s.data.toList.take s.size) = numF s.data.toList) := Lib.hid (by rw [← data_len, List.take_length])
      go_wp2_with fail
      go_ret2
      exact ⟨by rw [HT.out]; rfl, rfl⟩
set_option maxHeartbeats 2000000 in
theorem number_no (s : ByteArray) (hs : s.size ≤ 100000) (hok : ¬ numOk s.data.toList) (w : World) :
    Calls Tryd.prog 31 #[.string s] w fun e w' => e = .returned (.tuple #[.int .i64 0, .bool false]) ∧ w = w' := by
  have HOk := Lib.hid hok
  clear hok
  have HE : Hid (s.data.toList = [] → s.toList.isEmpty = true ∧ s.size = 0) := Lib.hid (fun h => ⟨by rw [ByteArray.toList_eq, h]; rfl, by rw [← data_len, h]; rfl⟩)
  go_enter Tryd.func31, Tryd.ntmps31
  go_wp2_with fail
  go_loop [4, 9] (fun v i => ∃ k : Nat, k ≤ s.size ∧ i = .int .i64 k ∧ v = .int .i64 (numF (s.data.toList.take k) : Nat) ∧ ∀ b ∈ s.data.toList.take k, dgt b = true) (fun _ i => s.size - (intOf i).toNat)
  case atStart => exact ⟨0, by omega, rfl, rfl, by simp⟩
  case round =>
    obtain ⟨k, hk, rfl, rfl, hall⟩ := hrel
    have HAll := Lib.hid hall
    clear hall
    by_cases hlt : k < s.size
    · have hle := fold_le (s.data.toList.take k)
      rcases hd : dgt s[k] with _ | _
      · have hb := hd
        unfold dgt at hb
        simp only [decide_eq_false_iff_not] at hb
        have hc : (s[k].toNat < 48) ∨ (¬ s[k].toNat < 48 ∧ 57 < s[k].toNat) := by omega
        clear hd hb
        rcases hc with h1 | ⟨h1, h2⟩
        · have hd1 : decide ((s[k].toNat : Int) < 48) = true := by simp; omega
          generalize numF (s.data.toList.take k) = x at *
          go_wp2_with fail
          go_ret2
          exact ⟨rfl, rfl⟩
        · have hd1 : decide ((s[k].toNat : Int) < 48) = false := by simp; omega
          have hd2 : decide (57 < (s[k].toNat : Int)) = true := by simp; omega
          generalize numF (s.data.toList.take k) = x at *
          go_wp2_with fail
          go_ret2
          exact ⟨rfl, rfl⟩
      · have hb := hd
        unfold dgt at hb
        simp at hb
        have hd1 : decide ((s[k].toNat : Int) < 48) = false := by simp; omega
        have hd2 : decide ((s[k].toNat : Int) > 57) = false := by simp; omega
        have HS : Hid (numF (s.data.toList.take (k + 1)) = accN (numF (s.data.toList.take k)) s[k]) := Lib.hid (by
          unfold numF
          rw [foldl_snoc _ _ _ k (by rw [data_len]; exact hlt), data_at s k hlt])
        have HA : Hid ((accN (numF (s.data.toList.take k)) s[k] : Int) = min ((numF (s.data.toList.take k) : Nat) * 10 + ((s[k].toNat : Int) - 48)) 501) := Lib.hid (by unfold accN; omega)
        have HAll2 : Hid (∀ b ∈ s.data.toList.take (k + 1), dgt b = true) := Lib.hid (by
          rw [take_snoc _ k (by rw [data_len]; exact hlt), data_at s k hlt]
          intro b hb
          rcases List.mem_append.1 hb with hb | hb
          · exact HAll.out b hb
          · simp at hb; rw [hb]; exact hd)
        clear hd
        generalize accN (numF (s.data.toList.take k)) s[k] = y at *
        generalize numF (s.data.toList.take k) = x at *
        go_wp2_with fail
        all_goals
          go_round
          case rel => exact ⟨k + 1, by omega, by go_num, by rw [HS.out]; have := HA.out; congr 1; omega, HAll2.out⟩
          case measure => simp [intOf]; omega
    · obtain rfl : k = s.size := by omega
      have hnil : s.data.toList = [] := Classical.byContradiction fun h => HOk.out ⟨h, fun b hb => HAll.out b (by rw [← data_len, List.take_length]; exact hb)⟩
      obtain ⟨e1, e2⟩ := HE.out hnil
      have hx : numF (s.data.toList.take s.size) = 0 := by rw [hnil, List.take_nil]; rfl
      rw [hx]
      clear hnil hlt hx
      go_wp2_with fail
      go_ret2
      exact ⟨rfl, rfl⟩

set_option maxHeartbeats 1000000 in
set_option maxRecDepth 100000 in
theorem indexByte_any (s : ByteArray) (c : Int) (w : World) :
    Calls Tryd.prog 52 #[.string s, .int .u8 c] w fun e w' => e = .returned (.int .i64 (Lib.indexByte s.data.toList c.toNat.toUInt8)) ∧ w = w' := by
  go_enter Tryd.func52, Tryd.ntmps52
  go_wp2
  rw [run_callFunc_extern Tryd.func61 (by kernel_rfl) (by kernel_rfl) (by kernel_rfl) (e := Extern.BytealgIndexByte.indexByte) (by kernel_rfl), Lib.run_indexByteString]
  simp only [Result.andThen]
  rw [Oper.upon_value]
  go_wp2
  go_ret
  exact ⟨rfl, rfl⟩
def slash : ByteArray := ⟨#[47]⟩
set_option maxHeartbeats 2000000 in
set_option maxRecDepth 100000 in
theorem index_any (s : ByteArray) (w : World) :
    Calls Tryd.prog 45 #[.string s, .string ⟨#[47]⟩] w fun e w' => e = .returned (.int .i64 (Lib.indexByte s.data.toList 47)) ∧ w = w' := by
  have HI := Lib.hid (fun W => indexByte_any s 47 W)
  rw [show (47 : Int).toNat.toUInt8 = 47 from rfl] at HI
  by_cases h : s = ⟨#[47]⟩
  · subst h
    go_enter Tryd.func45, Tryd.ntmps45
    go_wp2_with (go_at_call 52; refine (HI.out _).mono ?_; rintro e w1 ⟨rfl, rfl⟩)
    go_ret
    exact ⟨rfl, rfl⟩
  · have hne : (([47] : List UInt8) == s.toList) = false := by
      rw [beq_eq_false_iff_ne]
      intro e
      apply h
      have e2 : s.data.toList = [47] := by rw [← ByteArray.toList_eq]; exact e.symm
      obtain ⟨⟨l⟩⟩ := s
      simp at e2
      rw [e2]
    clear h
    generalize Lib.indexByte s.data.toList 47 = x at *
    go_enter Tryd.func45, Tryd.ntmps45
    go_wp2_with (go_at_call 52; refine (HI.out _).mono ?_; rintro e w1 ⟨rfl, rfl⟩)
    go_ret
    exact ⟨rfl, rfl⟩
set_option maxHeartbeats 2000000 in
theorem cut_no (s : ByteArray) (h : Lib.indexByte s.data.toList 47 = -1) (w : World) :
    Calls Tryd.prog 30 #[.string s, .string ⟨#[47]⟩] w fun e w' => e = .returned (.tuple #[.string s, .string ⟨#[]⟩, .bool false]) ∧ Below w.heap.size w w' := by
  have HI := Lib.hid (fun W => index_any s W)
  rw [h] at HI
  clear h
  have HC : Hid (∀ W, Calls Tryd.prog 40 #[.string s, .string ⟨#[47]⟩] W fun e w' => e = .returned (.tuple #[.string s, .string ⟨#[]⟩, .bool false]) ∧ Below W.heap.size W w') := Lib.hid (fun W => by
    go_enter Tryd.func40, Tryd.ntmps40
    go_wp2_with (go_at_call 45; refine (HI.out _).mono ?_; rintro e w1 ⟨rfl, rfl⟩)
    go_ret3
    exact ⟨rfl, Below.refl _ _⟩)
  go_enter Tryd.func30, Tryd.ntmps30
  go_wp2_with (go_at_call 40; refine (HC.out _).mono ?_; rintro e w1 ⟨rfl, hb1⟩; have HB := Lib.hid hb1; clear hb1)
  go_ret3
  exact ⟨rfl, HB.out⟩
set_option maxHeartbeats 2000000 in
theorem cut_yes (s : ByteArray) (i : Nat) (h : Lib.indexByte s.data.toList 47 = i) (hi : i < s.size) (hs : s.size ≤ 100000) (w : World) :
    Calls Tryd.prog 30 #[.string s, .string ⟨#[47]⟩] w fun e w' => e = .returned (.tuple #[.string (s.extract 0 i), .string (s.extract (i + 1) s.size), .bool true]) ∧ Below w.heap.size w w' := by
  have HI := Lib.hid (fun W => index_any s W)
  rw [h] at HI
  clear h
  have HC : Hid (∀ W, Calls Tryd.prog 40 #[.string s, .string ⟨#[47]⟩] W fun e w' => e = .returned (.tuple #[.string (s.extract 0 i), .string (s.extract (i + 1) s.size), .bool true]) ∧ Below W.heap.size W w') := Lib.hid (fun W => by
    have c1 : (0 : Int) ≤ ↑i := by omega
    have c2 : (↑i : Int) ≤ ↑s.size := by omega
    have c3 : (0 : Int) ≤ ↑i + 1 := by omega
    have c4 : (↑i + 1 : Int) ≤ ↑s.size := by omega
    go_enter Tryd.func40, Tryd.ntmps40
    go_wp2_with (go_at_call 45; refine (HI.out _).mono ?_; rintro e w1 ⟨rfl, rfl⟩)
    go_quiet (fail)
    go_wp2
    go_ret3
    exact ⟨rfl, below_drewN (Below.refl _ _) _⟩)
  go_enter Tryd.func30, Tryd.ntmps30
  go_wp2_with (go_at_call 40; refine (HC.out _).mono ?_; rintro e w1 ⟨rfl, hb1⟩; have HB := Lib.hid hb1; clear hb1)
  go_ret3
  exact ⟨rfl, HB.out⟩
end Go.Proofs.YtnfdgioapbkonaaDoor

/-
  A text cut at its first semicolon; what data of a macro begin with, plainly.
  What data of a macro begin with: the program's part.
  Data of a macro as bytes: the program's Decode.
  Data of a macro as bytes, by the document: the next semicolon; what data begin with, in its words.
  Data of a macro as bytes, by the document.
  What the laws on macros' data share: a fixed fact, texts that are cut short, how much is answered at most.
-/
import Derived.Test.YtnbbepkkedhhgaaGreatDoorHexE
import Derived.Lib.Bytealg
import Derived.Lib.Strings
import Derived.Laws.Externs
import Derived.Laws.Strings3
import Derived.Test.YtnbbepkkedhhgaaGreatDoorParV
import Derived.Test.YtnbbepkkedhhgaaGreatDoorParJ
import Derived.Test.YtnbbepkkedhhgaaGreatDoorShelfR
import Derived.Deep.CutBlock
namespace Go.Proofs.YtnbbepkkedhhgaaGreatDoor

open Go Go.RowKit

theorem idx59 (l : List UInt8) : (Lib.indexByte l 59 = -1 ∧ ∀ b ∈ l, b ≠ 59) ∨ ∃ i : Nat, Lib.indexByte l 59 = i ∧ i < l.length ∧ l = l.take i ++ 59 :: l.drop (i + 1) ∧ ∀ b ∈ l.take i, b ≠ 59 := by
  induction l with
  | nil => exact .inl ⟨rfl, by simp⟩
  | cons c l ih =>
    by_cases hc : c = 59
    · subst hc
      exact .inr ⟨0, by simp [Lib.indexByte], by simp, by simp, by simp⟩
    · have hb : (c == 59) = false := by simpa using hc
      rcases ih with ⟨h1, h2⟩ | ⟨i, h1, h2, h3, h4⟩
      · refine .inl ⟨by simp [Lib.indexByte, hb, h1], fun b hm => ?_⟩
        rcases List.mem_cons.1 hm with rfl | hm
        · exact hc
        · exact h2 b hm
      · refine .inr ⟨i + 1, ?_, by simp; omega, ?_, fun b hm => ?_⟩
        · have : ((i : Int) == -1) = false := by rw [beq_eq_false_iff_ne]; omega
          simp [Lib.indexByte, hb, h1, this]
        · rw [List.take_succ_cons, List.drop_succ_cons, List.cons_append, ← h3]
        · rw [List.take_succ_cons] at hm
          rcases List.mem_cons.1 hm with rfl | hm
          · exact hc
          · exact h4 b hm
set_option maxHeartbeats 1000000 in
set_option maxRecDepth 100000 in
theorem iByte_any (s : ByteArray) (c : Int) (w : World) :
    Calls Tryz.prog 86 #[.string s, .int .u8 c] w fun e w' => e = .returned (.int .i64 (Lib.indexByte s.data.toList c.toNat.toUInt8)) ∧ w = w' := by
  go_enter Tryz.func86, Tryz.ntmps86
  go_wp2
  rw [run_callFunc_extern Tryz.func102 (by kernel_rfl) (by kernel_rfl) (by kernel_rfl) (e := Extern.BytealgIndexByte.indexByte) (by kernel_rfl), Lib.run_indexByteString]
  simp only [Result.andThen]
  rw [Oper.upon_value]
  go_wp2
  go_ret
  exact ⟨rfl, rfl⟩
set_option maxHeartbeats 2000000 in
set_option maxRecDepth 100000 in
theorem index59_any (s : ByteArray) (w : World) :
    Calls Tryz.prog 67 #[.string s, .string ⟨#[59]⟩] w fun e w' => e = .returned (.int .i64 (Lib.indexByte s.data.toList 59)) ∧ w = w' := by
  have HI := Lib.hid (fun W => iByte_any s 59 W)
  rw [show (59 : Int).toNat.toUInt8 = 59 from rfl] at HI
  by_cases h : s = ⟨#[59]⟩
  · subst h
    go_enter Tryz.func67, Tryz.ntmps67
    go_wp2_with (go_at_call 86; refine (HI.out _).mono ?_; rintro e w1 ⟨rfl, rfl⟩)
    go_ret
    exact ⟨rfl, rfl⟩
  · have hne : (([59] : List UInt8) == s.toList) = false := by
      rw [beq_eq_false_iff_ne]
      intro e
      apply h
      have e2 : s.data.toList = [59] := by rw [← ByteArray.toList_eq]; exact e.symm
      obtain ⟨⟨l⟩⟩ := s
      simp at e2
      rw [e2]
    clear h
    generalize Lib.indexByte s.data.toList 59 = x at *
    go_enter Tryz.func67, Tryz.ntmps67
    go_wp2_with (go_at_call 86; refine (HI.out _).mono ?_; rintro e w1 ⟨rfl, rfl⟩)
    go_ret
    exact ⟨rfl, rfl⟩
set_option maxHeartbeats 2000000 in
theorem cut59_no (s : ByteArray) (h : Lib.indexByte s.data.toList 59 = -1) (w : World) :
    Calls Tryz.prog 35 #[.string s, .string ⟨#[59]⟩] w fun e w' => e = .returned (.tuple #[.string s, .string ⟨#[]⟩, .bool false]) ∧ Below w.heap.size w w' := by
  have HI := Lib.hid (fun W => index59_any s W)
  rw [h] at HI
  clear h
  have HC : Hid (∀ W, Calls Tryz.prog 52 #[.string s, .string ⟨#[59]⟩] W fun e w' => e = .returned (.tuple #[.string s, .string ⟨#[]⟩, .bool false]) ∧ Below W.heap.size W w') := Lib.hid (fun W => by
    go_enter Tryz.func52, Tryz.ntmps52
    go_wp2_with (go_at_call 67; refine (HI.out _).mono ?_; rintro e w1 ⟨rfl, rfl⟩)
    go_ret3
    exact ⟨rfl, Below.refl _ _⟩)
  go_enter Tryz.func35, Tryz.ntmps35
  go_wp2_with (go_at_call 52; refine (HC.out _).mono ?_; rintro e w1 ⟨rfl, hb1⟩; have HB := Lib.hid hb1; clear hb1)
  go_ret3
  exact ⟨rfl, HB.out⟩
set_option maxHeartbeats 2000000 in
theorem cut59_yes (s : ByteArray) (i : Nat) (h : Lib.indexByte s.data.toList 59 = i) (hi : i < s.size) (hs : s.size ≤ 100000) (w : World) :
    Calls Tryz.prog 35 #[.string s, .string ⟨#[59]⟩] w fun e w' => e = .returned (.tuple #[.string (s.extract 0 i), .string (s.extract (i + 1) s.size), .bool true]) ∧ Below w.heap.size w w' := by
  have HI := Lib.hid (fun W => index59_any s W)
  rw [h] at HI
  clear h
  have HC : Hid (∀ W, Calls Tryz.prog 52 #[.string s, .string ⟨#[59]⟩] W fun e w' => e = .returned (.tuple #[.string (s.extract 0 i), .string (s.extract (i + 1) s.size), .bool true]) ∧ Below W.heap.size W w') := Lib.hid (fun W => by
    have c1 : (0 : Int) ≤ ↑i := by omega
    have c2 : (↑i : Int) ≤ ↑s.size := by omega
    have c3 : (0 : Int) ≤ ↑i + 1 := by omega
    have c4 : (↑i + 1 : Int) ≤ ↑s.size := by omega
    go_enter Tryz.func52, Tryz.ntmps52
    go_wp2_with (go_at_call 67; refine (HI.out _).mono ?_; rintro e w1 ⟨rfl, rfl⟩)
    go_quiet (fail)
    go_wp2
    go_ret3
    exact ⟨rfl, below_drewN (Below.refl _ _) _⟩)
  go_enter Tryz.func35, Tryz.ntmps35
  go_wp2_with (go_at_call 52; refine (HC.out _).mono ?_; rintro e w1 ⟨rfl, hb1⟩; have HB := Lib.hid hb1; clear hb1)
  go_ret3
  exact ⟨rfl, HB.out⟩

/-- A list cut at its first semicolon. -/
def cutL : List Nat → List Nat × List Nat × Bool
  | [] => ([], [], false)
  | c :: l => if c = 59 then ([], l, true) else (c :: (cutL l).1, (cutL l).2.1, (cutL l).2.2)
theorem natL_ext (s : ByteArray) (a b : Nat) : natL (s.extract a b).data.toList = ((natL s.data.toList).take b).drop a := by
  rw [ByteArray.data_extract, Array.toList_extract, List.extract_eq_take_drop]
  unfold natL
  rw [List.map_take, List.map_drop, List.drop_take]
theorem cutL_no (l : List Nat) (h : ∀ c ∈ l, c ≠ 59) : cutL l = (l, [], false) := by
  induction l with
  | nil => rfl
  | cons c l ih =>
    have hc := h c (by simp)
    unfold cutL
    rw [if_neg hc, ih (fun x hx => h x (by simp [hx]))]
theorem cutL_yes (l : List Nat) (i : Nat) (r : List Nat) (he : l = l.take i ++ 59 :: r) (h : ∀ c ∈ l.take i, c ≠ 59) : cutL l = (l.take i, r, true) := by
  generalize l.take i = p at *
  subst he
  induction p with
  | nil => simp [cutL]
  | cons c p ih =>
    have hc := h c (by simp)
    show cutL (c :: (p ++ 59 :: r)) = _
    unfold cutL
    rw [if_neg hc, ih (fun x hx => h x (by simp [hx]))]
/-- What strings.Cut answers. -/
theorem cutS_any (s : ByteArray) (hs : s.size ≤ 100000) (w : World) :
    Calls Tryz.prog 35 #[.string s, .string ⟨#[59]⟩] w fun e w' => ∃ a b : ByteArray, e = .returned (.tuple #[.string a, .string b, .bool (cutL (natL s.data.toList)).2.2]) ∧ natL a.data.toList = (cutL (natL s.data.toList)).1 ∧ natL b.data.toList = (cutL (natL s.data.toList)).2.1 ∧ a.size + b.size ≤ s.size ∧ Below w.heap.size w w' := by
  rcases idx59 s.data.toList with ⟨h1, h2⟩ | ⟨i, h1, h2, h3, h4⟩
  · refine (cut59_no s h1 w).mono fun e w' ⟨he, hb⟩ => ?_
    have hc : cutL (natL s.data.toList) = (natL s.data.toList, [], false) := cutL_no _ (fun c hc => by
      unfold natL at hc
      obtain ⟨u, hu, rfl⟩ := List.mem_map.1 hc
      intro h
      exact h2 u hu (UInt8.toNat_inj.1 h))
    rw [hc]
    exact ⟨s, ⟨#[]⟩, he, rfl, rfl, Nat.le_refl _, hb⟩
  · have hi : i < s.size := by rw [← natB_len, natL_len]; exact h2
    refine (cut59_yes s i h1 hi hs w).mono fun e w' ⟨he, hb⟩ => ?_
    have hn : natL s.data.toList = (natL s.data.toList).take i ++ 59 :: (natL s.data.toList).drop (i + 1) := by
      conv => lhs; rw [h3]
      unfold natL
      rw [List.map_append, List.map_cons, List.map_take, List.map_drop]
      rfl
    have hc := cutL_yes (natL s.data.toList) i _ hn (fun c hc => by
      unfold natL at hc
      rw [← List.map_take] at hc
      obtain ⟨u, hu, rfl⟩ := List.mem_map.1 hc
      intro h
      exact h4 u hu (UInt8.toNat_inj.1 h))
    rw [hc]
    refine ⟨_, _, he, ?_, ?_, ?_, hb⟩
    · rw [natL_ext, List.drop_zero]
    · rw [natL_ext, List.take_of_length_le (by rw [natB_len]; exact Nat.le_refl _)]
    · rw [ByteArray.size_extract, ByteArray.size_extract]; omega
end Go.Proofs.YtnbbepkkedhhgaaGreatDoor

namespace Go.Proofs.YtnbbepkkedhhgaaGreatDoor

open Go Go.RowKit

def bang (s : ByteArray) : Bool := if 1 ≤ s.size then (s.extract 0 1).toList == [33] else false
set_option maxHeartbeats 2000000 in
theorem bangS_any (s : ByteArray) (w : World) : Calls Tryz.prog 59 #[.string s, .string ⟨#[33]⟩] w fun e w' => e = .returned (.bool (bang s)) ∧ w = w' := by
  unfold bang
  have hz : (ByteArray.mk #[33]).size = 1 := rfl
  by_cases h : 1 ≤ s.size
  · rw [if_pos h]
    have g0 : decide ((1 : Int) ≤ (s.size : Int)) = true := by simp; omega
    have g1 : (1 : Int) ≤ (s.size : Int) := by omega
    go_enter Tryz.func59, Tryz.ntmps59
    go_wp2_with fail
    go_ret
    exact ⟨rfl, rfl⟩
  · rw [if_neg h]
    have g0 : decide ((1 : Int) ≤ (s.size : Int)) = false := by simp; omega
    go_enter Tryz.func59, Tryz.ntmps59
    go_wp2_with fail
    go_ret
    exact ⟨rfl, rfl⟩
theorem bang_yes (s : ByteArray) (h : bang s = true) : 1 ≤ s.size ∧ natL s.data.toList = 33 :: natL (s.extract 1 s.size).data.toList := by
  unfold bang at h
  by_cases h1 : 1 ≤ s.size
  · rw [if_pos h1, ByteArray.toList_eq, ByteArray.data_extract, Array.toList_extract, List.extract_eq_take_drop, beq_iff_eq] at h
    refine ⟨h1, ?_⟩
    rw [natL_ext, List.take_of_length_le (by rw [natB_len]; exact Nat.le_refl _)]
    have hl : 1 ≤ s.data.toList.length := by rw [Array.length_toList]; exact h1
    revert h hl
    generalize s.data.toList = l
    intro h hl
    match l, hl with
    | a :: r, _ =>
      simp at h
      subst h
      rfl
  · rw [if_neg h1] at h; cases h
theorem bang_no (s : ByteArray) (h : bang s = false) : ∀ r, natL s.data.toList ≠ 33 :: r := by
  intro r hr
  have h1 : 1 ≤ s.size := by rw [← natB_len, hr]; simp
  unfold bang at h
  rw [if_pos h1, ByteArray.toList_eq, ByteArray.data_extract, Array.toList_extract, List.extract_eq_take_drop, beq_eq_false_iff_ne] at h
  have hl : 1 ≤ s.data.toList.length := by rw [Array.length_toList]; exact h1
  generalize s.data.toList = l at *
  cases l with
  | nil => simp at hl
  | cons a t =>
    unfold natL at hr
    simp only [List.map_cons, List.cons.injEq] at hr
    apply h
    rw [UInt8.toNat_inj.1 (hr.1.trans (show 33 = (33 : UInt8).toNat from rfl))]
    rfl
set_option maxHeartbeats 2000000 in
theorem cutBang_any (s : ByteArray) (w : World) : Calls Tryz.prog 34 #[.string s, .string ⟨#[33]⟩] w fun e w' => e = .returned (if bang s = true then .tuple #[.string (s.extract 1 s.size), .bool true] else .tuple #[.string s, .bool false]) ∧ w = w' := by
  have HP := Lib.hid (fun W => bangS_any s W)
  have hz : (ByteArray.mk #[33]).size = 1 := rfl
  rcases hb : bang s with _ | _
  · rw [hb] at HP
    rw [if_neg (by simp)]
    have HC : Hid (∀ W, Calls Tryz.prog 51 #[.string s, .string ⟨#[33]⟩] W fun e w' => e = .returned (.tuple #[.string s, .bool false]) ∧ W = w') := Lib.hid (fun W => by
      go_enter Tryz.func51, Tryz.ntmps51
      go_wp2_with (refine (HP.out _).mono ?_; rintro e w1 ⟨rfl, rfl⟩)
      go_ret2
      exact ⟨rfl, rfl⟩)
    go_enter Tryz.func34, Tryz.ntmps34
    go_wp2_with (refine (HC.out _).mono ?_; rintro e w1 ⟨rfl, rfl⟩)
    go_ret2
    exact ⟨rfl, rfl⟩
  · rw [hb] at HP
    rw [if_pos rfl]
    obtain ⟨h1, _⟩ := bang_yes s hb
    have g1 : (1 : Int) ≤ (s.size : Int) := by omega
    have HC : Hid (∀ W, Calls Tryz.prog 51 #[.string s, .string ⟨#[33]⟩] W fun e w' => e = .returned (.tuple #[.string (s.extract 1 s.size), .bool true]) ∧ W = w') := Lib.hid (fun W => by
      go_enter Tryz.func51, Tryz.ntmps51
      go_wp2_with (refine (HP.out _).mono ?_; rintro e w1 ⟨rfl, rfl⟩)
      go_ret2
      exact ⟨rfl, rfl⟩)
    go_enter Tryz.func34, Tryz.ntmps34
    go_wp2_with (refine (HC.out _).mono ?_; rintro e w1 ⟨rfl, rfl⟩)
    go_ret2
    exact ⟨rfl, rfl⟩
/-- The byte, or the repeat, with which data begin: some bytes, how often, what is behind. -/
def prtR (l : List Nat) : Option (List Nat × Int × List Nat) :=
  if (cutL l).2.2 = true ∧ (parseV ((cutL l).1.map UInt8.ofNat)).2 = 0 then
    (fhL (cutL (cutL l).2.1).1).map fun b => (b, getP (parseV ((cutL l).1.map UInt8.ofNat)).1 0 1, (cutL (cutL l).2.1).2.1)
  else none
def prtB (l : List Nat) : Option (List Nat × Int × List Nat) :=
  if 2 < l.length then (fhL (l.take 2)).map fun b => (b, 1, l.drop 2) else (fhL l).map fun b => (b, 1, [])
def prt (l : List Nat) : Option (List Nat × Int × List Nat) := if l.head? = some 33 then prtR l.tail else prtB l
def PrtQ (o : Option (List Nat × Int × List Nat)) (e : Ending) : Prop := match o with
  | some (b, n, r) => ∃ u : ByteArray, e = .returned (.tuple #[.string (bstr b), .int .i64 n, .string u, .bool true]) ∧ natL u.data.toList = r
  | none => ∃ (x : ByteArray) (n : Int) (u : ByteArray), e = .returned (.tuple #[.string x, .int .i64 n, .string u, .bool false])
theorem back8 (l : List UInt8) : (natL l).map UInt8.ofNat = l := by
  unfold natL
  rw [List.map_map]
  conv => rhs; rw [← List.map_id l]
  apply List.map_congr_left
  intro c _
  simp
theorem fhV_form (o : Option (List Nat)) : ∃ (X : ByteArray) (K : Int), fhV o = .tuple #[.string X, .int .i64 K] ∧ ∀ (n : Int) (u : ByteArray) (r : List Nat), natL u.data.toList = r → PrtQ (o.map fun b => (b, n, r)) (.returned (.tuple #[.string X, .int .i64 n, .string u, .bool (K == 0)])) := by
  rcases o with _ | b
  · exact ⟨⟨#[]⟩, 3, rfl, fun n u r h => ⟨_, _, _, rfl⟩⟩
  · exact ⟨bstr b, 0, rfl, fun n u r h => ⟨u, rfl, h⟩⟩
set_option maxRecDepth 100000 in
set_option maxHeartbeats 4000000 in
theorem partB_any (s : ByteArray) (hs : s.size ≤ 100000) (hb : bang s = false) (w : World) (he : ErrS w) :
    Calls Tryz.prog 24 #[.string s] w fun e w' => PrtQ (prtB (natL s.data.toList)) e ∧ Below w.heap.size w w' := by
  have HE := Lib.hid he
  have HCB := Lib.hid (fun W => cutBang_any s W)
  rw [hb] at HCB
  simp only [Bool.false_eq_true, if_false] at HCB
  unfold prtB
  rw [natB_len]
  clear hb he
  by_cases h2 : 2 < s.size
  · rw [if_pos h2]
    have hx : natL (s.extract 0 2).data.toList = (natL s.data.toList).take 2 := by rw [natL_ext]; simp
    have hy : natL (s.extract 2 s.size).data.toList = (natL s.data.toList).drop 2 := by rw [natL_ext, List.take_of_length_le (by rw [natB_len]; exact Nat.le_refl _)]
    have HF := Lib.hid (fun W h => fromHex_any (s.extract 0 2) (by rw [ByteArray.size_extract]; omega) W h)
    rw [hx] at HF
    have c2 : (2 : Int) ≤ (s.size : Int) := by omega
    have hd : decide ((2 : Int) < (s.size : Int)) = true := by simp; omega
    obtain ⟨X, K, hfv, hQ⟩ := fhV_form (fhL ((natL s.data.toList).take 2))
    rw [hfv] at HF
    have HQ := Lib.hid (hQ 1 _ _ hy)
    clear hfv hQ hx hy
    generalize Option.map _ _ = O at *
    --#1
    go_enter Tryz.func24, Tryz.ntmps24
    go_wp2_with fail
    refine (HCB.out _).mono ?_
    rintro e w1 ⟨rfl, rfl⟩
    go_upto_region 11 with fail
    go_quiet (fail)
    go_wp2_with fail
    refine (HF.out _ (HE.out.next (below_drewN (Below.refl _ _) _))).mono ?_
    rintro e w2 ⟨rfl, hb2⟩
    have HB2 := Lib.hid ((below_drewN (Below.refl w.heap.size w) _).trans hb2)
    clear hb2
    go_wp2_with fail
    exact bodyPost_ret (v := .tuple #[.string X, .int .i64 1, .string (s.extract 2 s.size), .bool (K == 0)]) (by simp [results, Tryz.results24, go_sem]) rfl ⟨HQ.out, HB2.out⟩
  · rw [if_neg h2]
    have HF := Lib.hid (fun W h => fromHex_any s (by omega) W h)
    have hd : decide ((2 : Int) < (s.size : Int)) = false := by simp; omega
    obtain ⟨X, K, hfv, hQ⟩ := fhV_form (fhL (natL s.data.toList))
    rw [hfv] at HF
    have HQ := Lib.hid (hQ 1 ⟨#[]⟩ [] rfl)
    clear hfv hQ
    generalize Option.map _ _ = O at *
    --#2
    go_enter Tryz.func24, Tryz.ntmps24
    go_wp2_with fail
    refine (HCB.out _).mono ?_
    rintro e w1 ⟨rfl, rfl⟩
    go_wp2_with fail
    refine (HF.out _ HE.out).mono ?_
    rintro e w2 ⟨rfl, hb2⟩
    have HB2 := Lib.hid hb2
    clear hb2
    go_wp2_with fail
    exact bodyPost_ret (v := .tuple #[.string X, .int .i64 1, .string ⟨#[]⟩, .bool (K == 0)]) (by simp [results, Tryz.results24, go_sem]) rfl ⟨HQ.out, HB2.out⟩
set_option maxRecDepth 100000 in
set_option maxHeartbeats 4000000 in
theorem partR_any (s : ByteArray) (hs : s.size ≤ 100000) (hb : bang s = true) (w : World) (he : ErrS w) :
    Calls Tryz.prog 24 #[.string s] w fun e w' => PrtQ (prtR (natL s.data.toList).tail) e ∧ Below w.heap.size w w' := by
  have HE := Lib.hid he
  have HCB := Lib.hid (fun W => cutBang_any s W)
  rw [hb] at HCB
  simp only [if_true] at HCB
  obtain ⟨h1, hl⟩ := bang_yes s hb
  rw [hl]
  have hu : (s.extract 1 s.size).size ≤ 100000 := by rw [ByteArray.size_extract]; omega
  generalize s.extract 1 s.size = u at *
  show Calls _ _ _ _ fun e w' => PrtQ (prtR (natL u.data.toList)) e ∧ Below w.heap.size w w'
  unfold prtR
  have HC := Lib.hid (fun W => cutS_any u hu W)
  generalize hcl : cutL (natL u.data.toList) = c at *
  obtain ⟨ca, cb, cf⟩ := c
  clear hb hl h1 he hs hcl
  simp only at *
  obtain ⟨O, hO⟩ : ∃ O, O = (if cf = true ∧ (parseV (ca.map UInt8.ofNat)).2 = 0 then (fhL (cutL cb).1).map fun b => (b, getP (parseV (ca.map UInt8.ofNat)).1 0 1, (cutL cb).2.1) else none) := ⟨_, rfl⟩
  rw [← hO]
  replace hO := Lib.hid hO
  --#3
  go_enter Tryz.func24, Tryz.ntmps24
  go_wp2_with fail
  refine (HCB.out _).mono ?_
  rintro e w1 ⟨rfl, rfl⟩
  go_wp2_with fail
  refine (HC.out _).mono ?_
  rintro e w2 ⟨a, b, rfl, ha, hbb, hab, hb2⟩
  have HB2 := Lib.hid hb2
  have hpa : a.data.toList = ca.map UInt8.ofNat := by rw [← ha, back8]
  have HP := Lib.hid (fun W => parse_all a (by unfold maxLen; omega) W)
  rw [hpa] at HP
  obtain ⟨_, _, her⟩ := parseV_range (ca.map UInt8.ofNat)
  generalize (parseV (ca.map UInt8.ofNat)).1 = ns at *
  generalize (parseV (ca.map UInt8.ofNat)).2 = er at *
  clear hb2 hpa ha HC HCB
  go_wp2_with fail
  refine (HP.out _).mono ?_
  rintro e w3 ⟨⟨A, n, rfl, hown⟩, hb3⟩
  have HB3 := Lib.hid (HB2.out.trans (hb3.mono HB2.out.size))
  clear hb3 HB2 HP
  --#4
  rcases cf with _ | _
  · have hON : O = none := by rw [hO.out, if_neg (by simp)]
    subst hON
    clear her
    go_wp2_with fail
    exact bodyPost_ret (v := .tuple #[.string ⟨#[]⟩, .int .i64 0, .string ⟨#[]⟩, .bool false]) (by simp [results, Tryz.results24, go_sem]) rfl ⟨⟨_, _, _, rfl⟩, HB3.out⟩
  · rcases her with rfl | rfl
    · have hOY := hO.out
      rw [if_pos ⟨rfl, rfl⟩] at hOY
      replace hO := Lib.hid hOY
      clear hOY
      have HG := Lib.hid (fun W h => get_any A n ns 0 1 W h)
      have HR := Lib.hid (OInts.reads hown)
      have HC2 := Lib.hid (fun W => cutS_any b (by omega) W)
      rw [hbb] at HC2
      generalize getP ns 0 1 = tm at *
      generalize hcl : cutL cb = c at *
      obtain ⟨da, db, df⟩ := c
      clear hown hbb hcl
      simp only at *
      go_wp2_with fail
      refine (HG.out _ HR.out).mono ?_
      rintro e w4 ⟨rfl, rfl⟩
      go_wp2_with fail
      refine (HC2.out _).mono ?_
      rintro e w5 ⟨x, y, rfl, hx, hy, hxy, hb5⟩
      have HB5 := Lib.hid (HB3.out.trans (hb5.mono HB3.out.size))
      clear hb5 HB3 HG HR HC2
      have HF := Lib.hid (fun W h => fromHex_any x (by omega) W h)
      rw [hx] at HF
      obtain ⟨X, K, hfv, hQ⟩ := fhV_form (fhL da)
      rw [hfv] at HF
      have HQ := Lib.hid (hQ tm _ _ hy)
      rw [← hO.out] at HQ
      clear hfv hQ hx hy hO
      --#5
      go_wp2_with fail
      refine (HF.out _ (HE.out.next HB5.out)).mono ?_
      rintro e w6 ⟨rfl, hb6⟩
      have HB6 := Lib.hid (HB5.out.trans (hb6.mono HB5.out.size))
      clear hb6 HB5
      go_wp2_with fail
      exact bodyPost_ret (v := .tuple #[.string X, .int .i64 tm, .string y, .bool (K == 0)]) (by simp [results, Tryz.results24, go_sem]) rfl ⟨HQ.out, HB6.out⟩
    · have hON : O = none := by rw [hO.out, if_neg (by simp)]
      subst hON
      go_wp2_with fail
      exact bodyPost_ret (v := .tuple #[.string ⟨#[]⟩, .int .i64 0, .string ⟨#[]⟩, .bool false]) (by simp [results, Tryz.results24, go_sem]) rfl ⟨⟨_, _, _, rfl⟩, HB3.out⟩
theorem part_any (s : ByteArray) (hs : s.size ≤ 100000) (w : World) (he : ErrS w) :
    Calls Tryz.prog 24 #[.string s] w fun e w' => PrtQ (prt (natL s.data.toList)) e ∧ Below w.heap.size w w' := by
  unfold prt
  rcases hb : bang s with _ | _
  · rw [if_neg]
    · exact partB_any s hs hb w he
    · intro h
      have hno := bang_no s hb
      revert h hno
      generalize natL s.data.toList = l
      intro h hno
      match l with
      | [] => cases h
      | a :: r => simp at h; exact hno r (by rw [h])
  · obtain ⟨_, hl⟩ := bang_yes s hb
    rw [if_pos (by rw [hl]; rfl)]
    exact partR_any s hs hb w he
end Go.Proofs.YtnbbepkkedhhgaaGreatDoor

namespace Go.Proofs.YtnbbepkkedhhgaaGreatDoor

open Go Go.RowKit

def rep (n : Int) (b : List Nat) : List Nat := (List.replicate n.toNat b).flatten
theorem rep_len (n : Int) (b : List Nat) : (rep n b).length = n.toNat * b.length := by
  unfold rep
  induction n.toNat with
  | zero => simp
  | succ k ih => rw [List.replicate_succ, List.flatten_cons, List.length_append, ih, Nat.succ_mul]; omega
theorem repeat_nat (s : ByteArray) (c : Nat) : natL (Lib.repeatL s.data.toList c) = rep c (natL s.data.toList) := by
  unfold rep
  rw [show ((c : Int)).toNat = c from rfl]
  induction c with
  | zero => rfl
  | succ k ih =>
    show natL (s.data.toList ++ Lib.repeatL s.data.toList k) = _
    rw [List.replicate_succ, List.flatten_cons, ← ih]
    unfold natL
    rw [List.map_append]
/-- All of it: the error, or the bytes. -/
def dcF : Nat → Nat → List Nat → List Nat → Int × List Nat
  | 0, _, _, _ => (0, [])
  | f + 1, M, out, l => if l = [] then (0, out) else match prt l with
    | none => (3, [])
    | some (b, n, r) => if b ≠ [] ∧ ((M - out.length) / b.length : Nat) < n then (5, []) else dcF f M (out ++ rep n b) r
theorem dcF_nil (f M : Nat) (out : List Nat) : dcF (f + 1) M out [] = (0, out) := rfl
theorem dcF_cons (f M : Nat) (out l : List Nat) (h : l ≠ []) : dcF (f + 1) M out l = match prt l with
    | none => (3, [])
    | some (b, n, r) => if b ≠ [] ∧ ((M - out.length) / b.length : Nat) < n then (5, []) else dcF f M (out ++ rep n b) r := by
  conv => lhs; unfold dcF
  rw [if_neg h]
def dcV (p : Int × List Nat) : Value := .tuple #[.string (bstr p.2), .int .i64 p.1]
theorem fh_len : ∀ (l b : List Nat), fhL l = some b → l.length = 2 * b.length
  | [], b, h => by simp [fhL] at h; subst h; rfl
  | [_], b, h => by simp [fhL] at h
  | x :: y :: l, b, h => by
    unfold fhL at h
    split at h
    · obtain ⟨m, hm, rfl⟩ := Option.map_eq_some_iff.1 h
      have := fh_len l m hm
      simp
      omega
    · cases h
theorem fh_lt : ∀ (l b : List Nat), fhL l = some b → ∀ x ∈ b, x < 256
  | [], b, h => by simp [fhL] at h; subst h; simp
  | [_], b, h => by simp [fhL] at h
  | x :: y :: l, b, h => by
    unfold fhL at h
    split at h
    · rename_i hxy
      obtain ⟨m, hm, rfl⟩ := Option.map_eq_some_iff.1 h
      have := fh_lt l m hm
      intro z hz
      rcases List.mem_cons.1 hz with rfl | hz
      · omega
      · exact this z hz
    · cases h
theorem cutL_len (l : List Nat) : (cutL l).1.length + (cutL l).2.1.length ≤ l.length := by
  induction l with
  | nil => simp [cutL]
  | cons c l ih =>
    unfold cutL
    split
    · simp
    · simp; omega
theorem get01 (ns : List Int) (h : InF ns) : 1 ≤ getP ns 0 1 ∧ getP ns 0 1 ≤ 65535 := by
  unfold getP
  split
  · omega
  · rename_i hne
    cases ns with
    | nil => simp [atP] at hne
    | cons a r =>
      have := h a (by simp)
      have e : atP (a :: r) 0 = a := by simp [atP]
      rw [e] at hne ⊢
      omega
theorem prt_facts (l : List Nat) (b : List Nat) (n : Int) (r : List Nat) (hl : l ≠ []) (h : prt l = some (b, n, r)) : 1 ≤ n ∧ n ≤ 65535 ∧ b.length ≤ l.length ∧ r.length < l.length ∧ ∀ x ∈ b, x < 256 := by
  unfold prt at h
  split at h
  · rename_i hh
    unfold prtR at h
    split at h
    · obtain ⟨m, hm, he⟩ := Option.map_eq_some_iff.1 h
      simp only [Prod.mk.injEq] at he
      obtain ⟨rfl, rfl, rfl⟩ := he
      obtain ⟨g1, g2⟩ := get01 _ (parseV_range ((cutL l.tail).1.map UInt8.ofNat)).1
      have h1 := cutL_len l.tail
      have h2 := cutL_len (cutL l.tail).2.1
      have h3 := fh_len _ _ hm
      have h4 : l.tail.length = l.length - 1 := List.length_tail
      have h5 : 0 < l.length := List.length_pos_iff.2 hl
      exact ⟨g1, g2, by omega, by omega, fh_lt _ _ hm⟩
    · cases h
  · unfold prtB at h
    have h5 : 0 < l.length := List.length_pos_iff.2 hl
    split at h
    · obtain ⟨m, hm, he⟩ := Option.map_eq_some_iff.1 h
      simp only [Prod.mk.injEq] at he
      obtain ⟨rfl, rfl, rfl⟩ := he
      have h3 := fh_len _ _ hm
      rw [List.length_take] at h3
      refine ⟨by omega, by omega, by omega, by rw [List.length_drop]; omega, fh_lt _ _ hm⟩
    · obtain ⟨m, hm, he⟩ := Option.map_eq_some_iff.1 h
      simp only [Prod.mk.injEq] at he
      obtain ⟨rfl, rfl, rfl⟩ := he
      have h3 := fh_len _ _ hm
      refine ⟨by omega, by omega, by omega, by simp; omega, fh_lt _ _ hm⟩
theorem str_empty (u : ByteArray) (h : u.size = 0) : u = ⟨#[]⟩ := ByteArray.ext (Array.eq_empty_of_size_eq_zero h)
theorem str_some (u : ByteArray) (h : u.size ≠ 0) : (u.toList == []) = false ∧ u.toList.isEmpty = false := by
  constructor
  · rw [ByteArray.toList_eq, beq_eq_false_iff_ne]
    intro h2
    have h3 := congrArg List.length h2
    rw [Array.length_toList] at h3
    exact absurd h3 (by show u.size ≠ 0; exact h)
  · rw [← decide_eq_emptyBytes]
    exact decide_eq_false (fun h2 => h (by rw [h2]; rfl))
set_option maxRecDepth 100000 in
set_option maxHeartbeats 8000000 in
theorem decode_any (t : ByteArray) (ht : t.size ≤ 100000) (M : Nat) (hM : M ≤ 100000) (mz : Int) (hmz : (if mz ≤ 0 then 0 else mz) = (M : Int)) (w : World) (he : ErrS w) :
    Calls Tryz.prog 12 #[.string t, .int .i64 mz] w fun e w' => e = .returned (dcV (dcF (t.size + 1) M [] (natL t.data.toList))) ∧ Below w.heap.size w w' := by
  obtain ⟨V, hV⟩ : ∃ V, V = dcV (dcF (t.size + 1) M [] (natL t.data.toList)) := ⟨_, rfl⟩
  rw [← hV]
  have HV := Lib.hid hV
  have HE := Lib.hid he
  have HP := Lib.hid (fun s h W g => part_any s h W g)
  have HCv := Lib.hid (fun ns A n W (h : RByt W A ns) => conv_by h n)
  have HRp := Lib.hid (fun s c W h1 h2 => Tryz.strings_Repeat s c W h1 h2)
  obtain ⟨i0, hi0, hz0, hz1, hz2⟩ := info_parts info_byte
  have HI0 := Lib.hid hi0; have HZ0 := Lib.hid hz0; have HZ1 := Lib.hid hz1; have HZ2 := Lib.hid hz2
  have hmx : max mz 0 = (M : Int) := by rw [← hmz]; split <;> omega
  clear hV he hi0 hz0 hz1 hz2
  replace hmz := Lib.hid hmz
  --#0
  go_enter Tryz.func12, Tryz.ntmps12
  go_upto_region 3 with fail
  --#1
  clear hmx hmz
  go_loopw [0, 6] (fun s b wr => ∃ (u : ByteArray) (out : List Nat) (f : Nat), s = .string u ∧ u.size < f ∧ u.size ≤ t.size ∧ out.length ≤ M ∧ OByt wr w.heap.size b out ∧ Below w.heap.size w wr ∧ Hid (dcF (t.size + 1) M [] (natL t.data.toList) = dcF f M out (natL u.data.toList))) (fun s _ _ => szV s)
  case atStart => exact ⟨t, [], t.size + 1, rfl, by omega, by omega, by simp, obyt_nil _ _, Below.refl _ _, Lib.hid rfl⟩
  case round =>
    obtain ⟨u, out, f, rfl, hf, hut, hout, ho, hb, hq⟩ := hrel
    have HO := Lib.hid ho; have HB := Lib.hid hb
    have HEr := Lib.hid (HE.out.next HB.out)
    clear ho hb
    by_cases h0 : u.size = 0
    · obtain rfl := str_empty u h0
      obtain ⟨f', rfl⟩ : ∃ f', f = f' + 1 := ⟨f - 1, by omega⟩
      obtain ⟨Q, cq, rfl⟩ := OByt.form HO.out
      have hcv := HCv.out _ Q cq _ (OByt.reads HO.out)
      have HV2 : Hid (V = .tuple #[.string (bstr out), .int .i64 0]) := Lib.hid (by rw [HV.out, hq.out]; rfl)
      clear hq hf h0
      go_wp2_with fail
      go_ret2
      exact ⟨by rw [HV2.out]; rfl, HB.out⟩
    · obtain ⟨hne, hemp⟩ := str_some u h0
      obtain ⟨f', rfl⟩ : ∃ f', f = f' + 1 := ⟨f - 1, by omega⟩
      have HPu := Lib.hid (HP.out u (by omega) wr HEr.out)
      have hln : natL u.data.toList ≠ [] := by
        intro h
        have := congrArg List.length h
        rw [natB_len] at this
        exact h0 this
      have hlen := natB_len u
      have hfacts := fun b n r h => prt_facts (natL u.data.toList) b n r hln h
      have hQ := hq.out
      rw [dcF_cons f' M out _ hln] at hQ
      rw [hlen] at hfacts
      generalize prt (natL u.data.toList) = o at *
      clear hln hlen hq HP
      rcases o with _ | ⟨b, n, r⟩
      · have HV2 : Hid (V = .tuple #[.string ⟨#[]⟩, .int .i64 3]) := Lib.hid (by rw [HV.out]; rw [show dcF (t.size + 1) M [] (natL t.data.toList) = (3, []) from hQ]; rfl)
        clear hQ hfacts
        --#2
        go_wp2_with fail
        refine HPu.out.mono ?_
        rintro e w2 ⟨⟨x, n, v, rfl⟩, hb2⟩
        have HB2 := Lib.hid (HB.out.trans (hb2.mono HB.out.size))
        clear hb2
        go_wp2_with fail
        go_ret2
        exact ⟨by rw [HV2.out]; rfl, HB2.out⟩
      · obtain ⟨n1, n2, hbl, hrl, hb8⟩ := hfacts b n r rfl
        clear hfacts
        obtain ⟨nn, rfl⟩ : ∃ k : Nat, n = k := ⟨n.toNat, by omega⟩
        replace hQ : dcF (t.size + 1) M [] (natL t.data.toList) = if b ≠ [] ∧ (((M - out.length) / b.length : Nat) : Int) < (nn : Int) then (5, []) else dcF f' M (out ++ rep nn b) r := hQ
        have hbs : (bstr b).size = b.length := bstr_size b
        have hnb := nat_bstr b hb8
        have HPn : Hid (Calls Tryz.prog 24 #[.string u] wr fun e w' => (∃ v : ByteArray, e = .returned (.tuple #[.string (bstr b), .int .i64 (nn : Nat), .string v, .bool true]) ∧ natL v.data.toList = r) ∧ Below wr.heap.size wr w') := Lib.hid HPu.out
        clear HPu hb8
        generalize bstr b = x at *
        obtain ⟨z, hz⟩ : ∃ z : ByteArray, z = ⟨(Lib.repeatL x.data.toList nn).toArray⟩ := ⟨_, rfl⟩
        have hzn : natL z.data.toList = rep nn b := by
          rw [hz, ← hnb, ← repeat_nat]
        have hzs : z.size = nn * b.length := by
          rw [← natB_len, hzn, rep_len]; rfl
        --#3
        by_cases hx0 : x.size = 0
        · have hb0 : b = [] := List.eq_nil_of_length_eq_zero (by omega)
          have HRx := Lib.hid (fun W => HRp.out x nn W (by omega) (by rw [hx0]; omega))
          rw [← hz] at HRx
          have hz0 : z.size = 0 := by rw [hzs, hb0]; simp
          have HN : Hid (dcF (t.size + 1) M [] (natL t.data.toList) = dcF f' M (out ++ natL z.data.toList) r) := Lib.hid (by
            rw [hzn]
            have h2 := hQ
            simp only [hb0, ne_eq, not_true_eq_false, false_and, if_false] at h2
            rw [hb0]
            exact h2)
          obtain rfl := str_empty x hx0
          clear hz hzn hzs hQ hnb hbs HRp hx0
          --#4
          go_wp2_with fail
          refine HPn.out.mono ?_
          rintro e w2 ⟨⟨v, rfl, hv⟩, hb2⟩
          have HB2 := Lib.hid (HB.out.trans (hb2.mono HB.out.size))
          have HO2 := Lib.hid (HO.out.next hb2)
          have hvs : v.size = r.length := by rw [← natB_len, hv]
          obtain ⟨A, cq, hA⟩ := OByt.form HO2.out
          subst hA
          clear hb2 HPn HO HB HEr
          go_wp2_with fail
          refine (HRx.out _).mono ?_
          rintro e w3 ⟨rfl, hb3⟩
          have HO3 := Lib.hid (HO2.out.next hb3)
          have HB3 := Lib.hid (HB2.out.trans (hb3.mono HB2.out.size))
          clear hb3 HO2 HB2 HRx
          go_wp2_with (at_builtin; (refine Lib.wpList_append_own_string _ rfl _ _ 59 9 rfl w.heap.size 5 i0 Tryz.underlying59 Tryz.underlying9 HI0.out HZ0.out HZ1.out HZ2.out _ _ _ rfl (obyt_own HO3.out) z rfl (by unfold maxLen; omega) (by omega) HB3.out.size ?_; intro v5 w5 hown5 hg5 hat5; have HO5 := Lib.hid (obyt_string z hown5); have HB5 := Lib.hid (HB3.out.trans (below_str HO3.out HB3.out.size hg5)); clear hown5 hg5 hat5))
          go_roundw
          case rel =>
            refine ⟨v, out ++ natL z.data.toList, f', rfl, by omega, by omega, ?_, HO5.out, HB5.out, ?_⟩
            · rw [List.length_append, natB_len]; omega
            · rw [hv]; exact HN
          case measure => simp [szV]; omega
        · obtain ⟨xne, xemp⟩ := str_some x hx0
          have hbne : b ≠ [] := by intro h; apply hx0; rw [hbs, h]; rfl
          obtain ⟨q, hq⟩ : ∃ q, q = (M - out.length) / x.size := ⟨_, rfl⟩
          have hq1 : q ≤ M := by rw [hq]; exact Nat.le_trans (Nat.div_le_self _ _) (Nat.sub_le _ _)
          have hqd : ((M : Int) - (out.length : Int)).tdiv (x.size : Int) = (q : Int) := by
            rw [hq, Int.natCast_ediv, ← Int.tdiv_eq_ediv_of_nonneg (by omega)]
            congr 1
            omega
          have hqe : ((M : Int) - (out.length : Int)) / (x.size : Int) = (q : Int) := by
            rw [hq, Int.natCast_ediv]
            congr 1
            omega
          have hqw : IntKind.i64.wrap (q : Int) = (q : Int) := IntWalk.i64_in _ (by omega)
          have hsw : IntKind.i64.wrap ((M : Int) - (out.length : Int)) = (M : Int) - (out.length : Int) := IntWalk.i64_in _ (by omega)
          have hqb : (M - out.length) / b.length = q := by rw [hq, hbs]
          have hxp : (x.size : Int) ≠ 0 := by omega
          rw [hqb] at hQ
          by_cases hfull : q < nn
          · have HV2 : Hid (V = .tuple #[.string ⟨#[]⟩, .int .i64 5]) := Lib.hid (by
              rw [HV.out]
              have h2 := hQ
              rw [if_pos ⟨hbne, by omega⟩] at h2
              rw [show dcF (t.size + 1) M [] (natL t.data.toList) = (5, []) from h2]
              rfl)
            have hg : decide ((q : Int) < (nn : Int)) = true := by simp; omega
            clear hQ hz hzn hzs HRp hq hqb hnb hbne hbs
            --#5
            go_wp2_with fail
            refine HPn.out.mono ?_
            rintro e w2 ⟨⟨v, rfl, hv⟩, hb2⟩
            have HB2 := Lib.hid (HB.out.trans (hb2.mono HB.out.size))
            have HO2 := Lib.hid (HO.out.next hb2)
            obtain ⟨A, cq, hA⟩ := OByt.form HO2.out
            subst hA
            clear hb2 HPn HO HB HEr
            go_wp2_with fail
            go_ret2
            exact ⟨by rw [HV2.out]; rfl, HB2.out⟩
          · have hmul : nn * x.size ≤ M - out.length := by
              have h1 : nn ≤ q := by omega
              calc nn * x.size ≤ q * x.size := Nat.mul_le_mul_right _ h1
                _ ≤ M - out.length := by rw [hq]; exact Nat.div_mul_le_self _ _
            have hzle : z.size ≤ M - out.length := by rw [hzs, ← hbs]; exact hmul
            have HRx := Lib.hid (fun W => HRp.out x nn W (by omega) (by rw [Nat.mul_comm]; omega))
            rw [← hz] at HRx
            have HN : Hid (dcF (t.size + 1) M [] (natL t.data.toList) = dcF f' M (out ++ natL z.data.toList) r) := Lib.hid (by
              rw [hzn]
              have h2 := hQ
              rw [if_neg (fun h => by have := h.2; omega)] at h2
              exact h2)
            have hg : decide ((q : Int) < (nn : Int)) = false := by simp; omega
            have hgl : (nn : Int) ≤ (q : Int) := by omega
            have hgn : ¬ (q : Int) < (nn : Int) := by omega
            have hgm : ¬ q < nn := hfull
            have hgk : nn ≤ q := by omega
            clear hQ hz hzn hzs HRp hq hqb hnb hbne hbs hmul hfull
            --#6
            go_wp2_with fail
            refine HPn.out.mono ?_
            rintro e w2 ⟨⟨v, rfl, hv⟩, hb2⟩
            have HB2 := Lib.hid (HB.out.trans (hb2.mono HB.out.size))
            have HO2 := Lib.hid (HO.out.next hb2)
            have hvs : v.size = r.length := by rw [← natB_len, hv]
            obtain ⟨A, cq, hA⟩ := OByt.form HO2.out
            subst hA
            clear hb2 HPn HO HB HEr
            go_wp2_with fail
            refine (HRx.out _).mono ?_
            rintro e w3 ⟨rfl, hb3⟩
            have HO3 := Lib.hid (HO2.out.next hb3)
            have HB3 := Lib.hid (HB2.out.trans (hb3.mono HB2.out.size))
            clear hb3 HO2 HB2 HRx
            go_wp2_with (at_builtin; (refine Lib.wpList_append_own_string _ rfl _ _ 59 9 rfl w.heap.size 5 i0 Tryz.underlying59 Tryz.underlying9 HI0.out HZ0.out HZ1.out HZ2.out _ _ _ rfl (obyt_own HO3.out) z rfl (by unfold maxLen; omega) (by omega) HB3.out.size ?_; intro v5 w5 hown5 hg5 hat5; have HO5 := Lib.hid (obyt_string z hown5); have HB5 := Lib.hid (HB3.out.trans (below_str HO3.out HB3.out.size hg5)); clear hown5 hg5 hat5))
            go_roundw
            case rel =>
              refine ⟨v, out ++ natL z.data.toList, f', rfl, by omega, by omega, ?_, HO5.out, HB5.out, ?_⟩
              · rw [List.length_append, natB_len]; omega
              · rw [hv]; exact HN
            case measure => simp [szV]; omega
end Go.Proofs.YtnbbepkkedhhgaaGreatDoor

namespace Go.Proofs.YtnbbepkkedhhgaaGreatDoor

open Go Go.RowKit

theorem cutL_parts (l : List Nat) : (cutL l).1 = l.take (cutL l).1.length ∧ (cutL l).2.1 = l.drop ((cutL l).1.length + 1) := by
  induction l with
  | nil => simp [cutL]
  | cons c l ih =>
    unfold cutL
    split
    · simp
    · simp only [List.length_cons, List.take_succ_cons, List.drop_succ_cons]
      exact ⟨by rw [← ih.1], ih.2⟩
def semN (t : ByteArray) (k : Nat) : Nat := k + (cutL ((natL t.data.toList).drop k)).1.length
theorem drop_at (t : ByteArray) (k : Nat) (h : k < t.size) : (natL t.data.toList).drop k = (t[k]).toNat :: (natL t.data.toList).drop (k + 1) := by
  have hl : (natL t.data.toList).length = t.size := natB_len t
  rw [List.drop_eq_getElem_cons (by omega)]
  congr 1
  simp [natL]; rfl
theorem drop_end (t : ByteArray) : (natL t.data.toList).drop t.size = [] := List.drop_of_length_le (by rw [natB_len]; exact Nat.le_refl _)
theorem sem_step (t : ByteArray) (k : Nat) (h : k < t.size) (hc : (t[k]).toNat ≠ 59) : semN t k = semN t (k + 1) := by
  unfold semN
  rw [drop_at t k h]
  conv => lhs; unfold cutL
  rw [if_neg hc]
  simp only [List.length_cons]
  omega
theorem sem_stop (t : ByteArray) (k : Nat) (h : k < t.size) (hc : (t[k]).toNat = 59) : semN t k = k := by
  unfold semN
  rw [drop_at t k h]
  unfold cutL
  rw [if_pos hc]
  rfl
theorem sem_end (t : ByteArray) : semN t t.size = t.size := by unfold semN; rw [drop_end]; rfl
theorem sem_le (t : ByteArray) (k : Nat) (h : k ≤ t.size) : k ≤ semN t k ∧ semN t k ≤ t.size := by
  unfold semN
  have h1 := cutL_len ((natL t.data.toList).drop k)
  rw [List.length_drop, natB_len] at h1
  omega
set_option maxRecDepth 100000 in
set_option maxHeartbeats 4000000 in
theorem semi_any (t : ByteArray) (ht : t.size ≤ 1000000) (k : Nat) (hk : k ≤ t.size) (w : World) :
    Calls Tryz.prog 47 #[.string t, .int .i64 k] w fun e w' => e = .returned (.int .i64 (semN t k : Nat)) ∧ w = w' := by
  obtain ⟨V, hV⟩ : ∃ V, V = semN t k := ⟨_, rfl⟩
  rw [← hV]
  replace hV := Lib.hid hV
  go_enter Tryz.func47, Tryz.ntmps47
  go_upto_region 1 with fail
  go_loopw [1] (fun n wr => ∃ j : Nat, n = .int .i64 j ∧ j ≤ t.size ∧ Hid (V = semN t j) ∧ w = wr) (fun n _ => t.size - (intOf n).toNat)
  case atStart => exact ⟨k, rfl, hk, hV, rfl⟩
  case round =>
    obtain ⟨j, rfl, hj, hn, rfl⟩ := hrel
    clear hV
    by_cases hgo : j < t.size
    · have hwj : IntKind.i64.wrap ((j : Int) + 1) = (j : Int) + 1 := IntWalk.i64_in _ (by omega)
      by_cases hc : (t[j]).toNat = 59
      · have HV : Hid (V = j) := Lib.hid (hn.out.trans (sem_stop t j hgo hc))
        have hc2 : ((t[j]).toNat : Int) = 59 := by omega
        clear hn
        go_wp2_with fail
        go_ret
        exact ⟨by rw [HV.out]; rfl, by first | rfl | trivial⟩
      · have HV : Hid (V = semN t (j + 1)) := Lib.hid (hn.out.trans (sem_step t j hgo hc))
        have hc2 : ¬ ((t[j]).toNat : Int) = 59 := by omega
        clear hn
        go_wp2_with fail
        go_roundw
        case rel => exact ⟨j + 1, by go_num, by omega, HV, by first | rfl | trivial⟩
        case measure => simp [intOf]; omega
    · obtain rfl : j = t.size := by omega
      have HV : Hid (V = t.size) := Lib.hid (hn.out.trans (sem_end t))
      clear hn
      go_wp2_with fail
      go_ret
      exact ⟨by rw [HV.out]; rfl, by first | rfl | trivial⟩
/-- Digits. -/
def isD (c : Nat) : Bool := decide (48 ≤ c) && decide (c ≤ 57)
def acN (n c : Nat) : Nat := min (10 * n + (c - 48)) 65535
def tmN (d : List Nat) : Nat := if d.foldl acN 0 = 0 then 1 else d.foldl acN 0
theorem ac_le (d : List Nat) (n : Nat) (h : n ≤ 65535) : d.foldl acN n ≤ 65535 := by
  induction d generalizing n with
  | nil => exact h
  | cons c d ih => exact ih _ (Nat.min_le_right _ _)
theorem span_eq (l : List Nat) : l = l.takeWhile isD ++ l.dropWhile isD := (List.takeWhile_append_dropWhile).symm
theorem o8 (c : Nat) (h : c < 256) : (UInt8.ofNat c).toNat = c := UInt8.toNat_ofNat_of_lt (by exact h)
theorem tw_all (l : List Nat) : ∀ c ∈ l.takeWhile isD, isD c = true := by
  induction l with
  | nil => intro c hc; cases hc
  | cons a l ih =>
    intro c hc
    rw [List.takeWhile_cons] at hc
    split at hc
    · rename_i ha
      rcases List.mem_cons.1 hc with rfl | hc
      · exact ha
      · exact ih c hc
    · cases hc
theorem take_dig (l : List Nat) : ∀ c ∈ l.takeWhile isD, 48 ≤ c ∧ c ≤ 57 := by
  intro c hc
  have := tw_all l c hc
  unfold isD at this
  simpa using this
theorem cut_dig (d r : List Nat) (h : ∀ c ∈ d, 48 ≤ c ∧ c ≤ 57) : cutL (d ++ r) = (d ++ (cutL r).1, (cutL r).2.1, (cutL r).2.2) := by
  induction d with
  | nil => rfl
  | cons c d ih =>
    have hc := h c (by simp)
    show cutL (c :: (d ++ r)) = _
    conv => lhs; unfold cutL
    rw [if_neg (by omega), ih (fun x hx => h x (by simp [hx]))]
    rfl
theorem ok_dig (d : List Nat) (h : ∀ c ∈ d, 48 ≤ c ∧ c ≤ 57) : OkB (d.map UInt8.ofNat) := by
  intro b hb
  obtain ⟨c, hc, rfl⟩ := List.mem_map.1 hb
  have := h c hc
  revert this
  have : ∀ c : Nat, c < 58 → 48 ≤ c → okb (UInt8.ofNat c) = true := by decide
  intro h2
  exact this c (by omega) h2.1
theorem sat_dig (d : List Nat) (h : ∀ c ∈ d, 48 ≤ c ∧ c ≤ 57) (n : Nat) : (d.map UInt8.ofNat).foldl (fun n b => sat1 n (dgt b)) (n : Int) = ((d.foldl acN n : Nat) : Int) := by
  induction d generalizing n with
  | nil => rfl
  | cons c d ih =>
    have hc := h c (by simp)
    rw [List.map_cons, List.foldl_cons, List.foldl_cons]
    have e : sat1 (n : Int) (dgt (UInt8.ofNat c)) = ((acN n c : Nat) : Int) := by
      unfold sat1 dgt acN
      rw [o8 c (by omega)]
      omega
    rw [e]
    exact ih (fun x hx => h x (by simp [hx])) _
theorem get_dig (d : List Nat) (h : ∀ c ∈ d, 48 ≤ c ∧ c ≤ 57) : (parseV (d.map UInt8.ofNat)).2 = 0 ∧ getP (parseV (d.map UInt8.ofNat)).1 0 1 = (tmN d : Nat) := by
  rw [parseV_yes (ok_dig d h)]
  refine ⟨rfl, ?_⟩
  show getP (numsOf (d.map UInt8.ofNat)) 0 1 = _
  unfold numsOf tmN
  by_cases hd : d = []
  · subst hd; rfl
  · rw [fieldsOf_digits _ (fun b hb => by
      obtain ⟨c, hc, rfl⟩ := List.mem_map.1 hb
      have := h c hc
      intro he
      have h2 := congrArg UInt8.toNat he
      rw [o8 c (by omega)] at h2
      have : (59 : UInt8).toNat = 59 := rfl
      omega) (by simpa using hd)]
    have hs : sat (d.map UInt8.ofNat) = ((d.foldl acN 0 : Nat) : Int) := sat_dig d h 0
    rw [hs]
    generalize d.foldl acN 0 = z
    show getP [(z : Int)] 0 1 = _
    unfold getP
    have e : atP [(z : Int)] 0 = z := by simp [atP]
    rw [e]
    by_cases hz : z = 0
    · subst hz; rfl
    · rw [if_neg (by omega), if_neg hz]
theorem prtR_nil (l : List Nat) (h : l.dropWhile isD = []) : prtR l = none := by
  have he := span_eq l
  rw [h, List.append_nil] at he
  have hc := cut_dig (l.takeWhile isD) [] (take_dig l)
  rw [List.append_nil, ← he] at hc
  unfold prtR
  rw [hc, if_neg (by simp [cutL])]
theorem prtR_no (l : List Nat) (c : Nat) (r : List Nat) (h : l.dropWhile isD = c :: r) (hc : c ≠ 59) (h8 : c < 256) : prtR l = none := by
  have he := span_eq l
  rw [h] at he
  have hcut := cut_dig (l.takeWhile isD) (c :: r) (take_dig l)
  rw [← he] at hcut
  have hd : isD c = false := by
    have := List.head_dropWhile_not isD (l := l) (by rw [h]; simp)
    simp only [h, List.head_cons] at this
    exact this
  unfold prtR
  rw [hcut]
  have e : (cutL (c :: r)).1 = c :: (cutL r).1 := by
    conv => lhs; unfold cutL
    rw [if_neg hc]
  rw [if_neg]
  rintro ⟨_, h2⟩
  have hno : ¬ OkB ((l.takeWhile isD ++ (cutL (c :: r)).1).map UInt8.ofNat) := by
    intro hok
    have := hok (UInt8.ofNat c) (List.mem_map.2 ⟨c, by rw [e]; simp, rfl⟩)
    unfold okb at this
    unfold isD at hd
    simp only [Bool.or_eq_true, beq_iff_eq, Bool.and_eq_true, decide_eq_true_eq, UInt8.le_iff_toNat_le] at this
    rw [o8 c h8] at this
    rcases this with h3 | h3
    · have h4 := congrArg UInt8.toNat h3
      rw [o8 c h8] at h4
      exact hc h4
    · have h5 : (48 : UInt8).toNat = 48 := rfl
      have h6 : (57 : UInt8).toNat = 57 := rfl
      simp at hd
      omega
  rw [parseV_no hno] at h2
  cases h2
theorem prtR_yes (l : List Nat) (r : List Nat) (h : l.dropWhile isD = 59 :: r) : prtR l = (fhL (cutL r).1).map fun b => (b, ((tmN (l.takeWhile isD) : Nat) : Int), (cutL r).2.1) := by
  have he := span_eq l
  rw [h] at he
  have hcut := cut_dig (l.takeWhile isD) (59 :: r) (take_dig l)
  rw [← he] at hcut
  have e : cutL (59 :: r) = ([], r, true) := by unfold cutL; rw [if_pos rfl]
  rw [e, List.append_nil] at hcut
  obtain ⟨g1, g2⟩ := get_dig (l.takeWhile isD) (take_dig l)
  unfold prtR
  rw [hcut, if_pos ⟨rfl, g1⟩, g2]
end Go.Proofs.YtnbbepkkedhhgaaGreatDoor

namespace Go.Proofs.YtnbbepkkedhhgaaGreatDoor

open Go Go.RowKit

theorem bstr_app (a b : List Nat) : bstr a ++ bstr b = bstr (a ++ b) := by
  apply ByteArray.ext
  apply Array.ext'
  rw [ByteArray.data_append, Array.toList_append, bstr_list, bstr_list, bstr_list, List.map_append]
theorem fhW_form (o : Option (List Nat)) : fhW o = .tuple #[.string (match o with | some b => bstr b | none => ⟨#[]⟩), .bool o.isSome] := by cases o <;> rfl
theorem rep_succ (i : Nat) (b : List Nat) : rep ((i + 1 : Nat) : Int) b = rep (i : Nat) b ++ b := by
  unfold rep
  show (List.replicate (i + 1) b).flatten = (List.replicate i b).flatten ++ b
  rw [List.replicate_succ', List.flatten_append]
  simp
theorem rep_nil (n : Int) : rep n [] = [] := by unfold rep; simp
theorem prt_plain (l : List Nat) (h : l.head? ≠ some 33) : prt l = prtB l := if_neg h
theorem prt_bang (l : List Nat) : prt (33 :: l) = prtR l := if_pos rfl
theorem prtB_two (c d : Nat) (r : List Nat) : prtB (c :: d :: r) = (fhL [c, d]).map fun b => (b, 1, r) := by
  unfold prtB
  cases r with
  | nil => rw [if_neg (by simp)]
  | cons a r => rw [if_pos (by simp)]; rfl
theorem prtB_one (c : Nat) : prtB [c] = none := by unfold prtB; rw [if_neg (by simp)]; rfl
theorem dw_step (t : ByteArray) (j : Nat) (h : j < t.size) (hd : isD (t[j]).toNat = true) : ((natL t.data.toList).drop j).dropWhile isD = ((natL t.data.toList).drop (j + 1)).dropWhile isD ∧ ((natL t.data.toList).drop j).takeWhile isD = (t[j]).toNat :: ((natL t.data.toList).drop (j + 1)).takeWhile isD := by
  rw [drop_at t j h]
  exact ⟨List.dropWhile_cons_of_pos hd, List.takeWhile_cons_of_pos hd⟩
theorem dw_stop (t : ByteArray) (j : Nat) (h : j < t.size) (hd : isD (t[j]).toNat = false) : ((natL t.data.toList).drop j).dropWhile isD = (natL t.data.toList).drop j ∧ ((natL t.data.toList).drop j).takeWhile isD = [] := by
  rw [drop_at t j h]
  exact ⟨List.dropWhile_cons_of_neg (by simp [hd]), List.takeWhile_cons_of_neg (by simp [hd])⟩
/-- What is known of the place behind the digits. -/
def DgI (t : ByteArray) (k j z : Nat) : Prop := ((natL t.data.toList).drop k).dropWhile isD = ((natL t.data.toList).drop j).dropWhile isD ∧ (((natL t.data.toList).drop k).takeWhile isD).foldl acN 0 = (((natL t.data.toList).drop j).takeWhile isD).foldl acN z ∧ z ≤ 65535
/-- The place where the digits end. -/
def DgE (t : ByteArray) (k j z : Nat) : Prop := ((natL t.data.toList).drop k).dropWhile isD = (natL t.data.toList).drop j ∧ (((natL t.data.toList).drop k).takeWhile isD).foldl acN 0 = z ∧ z ≤ 65535
theorem dg_end (t : ByteArray) (k z : Nat) (h : DgI t k t.size z) : DgE t k t.size z := by
  obtain ⟨h1, h2, h3⟩ := h
  rw [drop_end] at h1 h2
  exact ⟨by rw [drop_end]; exact h1, h2, h3⟩
theorem dg_stop (t : ByteArray) (k j z : Nat) (hj : j < t.size) (hd : isD (t[j]).toNat = false) (h : DgI t k j z) : DgE t k j z := by
  obtain ⟨h1, h2, h3⟩ := h
  obtain ⟨e1, e2⟩ := dw_stop t j hj hd
  exact ⟨h1.trans e1, by rw [h2, e2]; rfl, h3⟩
theorem dg_step (t : ByteArray) (k j z : Nat) (hj : j < t.size) (hd : isD (t[j]).toNat = true) (h : DgI t k j z) : DgI t k (j + 1) (acN z (t[j]).toNat) := by
  obtain ⟨h1, h2, h3⟩ := h
  obtain ⟨e1, e2⟩ := dw_step t j hj hd
  exact ⟨h1.trans e1, by rw [h2, e2]; rfl, Nat.min_le_right _ _⟩
set_option maxRecDepth 100000 in
set_option maxHeartbeats 16000000 in
theorem refDecode_any (t : ByteArray) (ht : t.size ≤ 100000) (M : Nat) (hM : M ≤ 100000) (mz : Int) (hmz : (if mz ≤ 0 then 0 else mz) = (M : Int)) (w : World) :
    Calls Tryz.prog 30 #[.string t, .int .i64 mz] w fun e w' => e = .returned (dcV (dcF (t.size + 1) M [] (natL t.data.toList))) ∧ Below w.heap.size w w' := by
  obtain ⟨V, hV⟩ : ∃ V, V = dcV (dcF (t.size + 1) M [] (natL t.data.toList)) := ⟨_, rfl⟩
  rw [← hV]
  have HV := Lib.hid hV
  have HF := Lib.hid (fun s h W => refFromHex_any s h W)
  have HS := Lib.hid (fun k h W => semi_any t (by omega) k h W)
  clear hV
  have hcs : (mz < 0 ∧ (0 : Int) = M) ∨ (0 ≤ mz ∧ mz = M) := by
    by_cases h : mz < 0
    · rw [if_pos (by omega)] at hmz; exact .inl ⟨h, hmz⟩
    · refine .inr ⟨by omega, ?_⟩
      by_cases h0 : mz = 0
      · subst h0; simpa using hmz
      · rw [if_neg (by omega)] at hmz; exact hmz
  clear hmz
  go_enter Tryz.func30, Tryz.ntmps30
  go_upto_if 16 with fail
  go_cut [1] (fun v wx => v = .int .i64 (M : Nat) ∧ w = wx)
  case first =>
    rcases hcs with ⟨hn, hm⟩ | ⟨hn, hm⟩
    · go_wp2_with fail
      go_meet
      exact ⟨by first | rfl | exact congrArg (Value.int .i64) hm, rfl⟩
    · have hnn : ¬ mz < 0 := by omega
      go_wp2_with fail
      go_meet
      exact ⟨by first | rfl | exact congrArg (Value.int .i64) hm, rfl⟩
  case rest =>
    obtain ⟨rfl, rfl⟩ := hcut
    clear hcs
    --#0
    go_upto_region 5 with fail
    go_loopw [6, 7] (fun s i wr => ∃ (k f : Nat) (o : List Nat), s = .string (bstr o) ∧ i = .int .i64 k ∧ k ≤ t.size + 1 ∧ t.size - k < f ∧ o.length ≤ M ∧ Below w.heap.size w wr ∧ Hid (dcF (t.size + 1) M [] (natL t.data.toList) = dcF f M o ((natL t.data.toList).drop k))) (fun _ i _ => t.size + 1 - (intOf i).toNat)
    case atStart => exact ⟨0, t.size + 1, [], rfl, rfl, by omega, by omega, by simp, Below.refl _ _, Lib.hid rfl⟩
    case round =>
      obtain ⟨k, f, o, rfl, rfl, hk, hf, ho, hb, hq⟩ := hrel
      have HB := Lib.hid hb
      clear hb
      obtain ⟨f', rfl⟩ : ∃ f', f = f' + 1 := ⟨f - 1, by omega⟩
      by_cases hgo : k < t.size
      · have hdr := drop_at t k hgo
        have hne : (natL t.data.toList).drop k ≠ [] := by rw [hdr]; simp
        have hQ := hq.out
        rw [dcF_cons f' M o _ hne] at hQ
        clear hne hq
        have hc8 : (t[k]).toNat < 256 := UInt8.toNat_lt _
        have hw1 : IntKind.i64.wrap ((k : Int) + 1) = (k : Int) + 1 := IntWalk.i64_in _ (by omega)
        have hw2 : IntKind.i64.wrap ((k : Int) + 2) = (k : Int) + 2 := IntWalk.i64_in _ (by omega)
        by_cases hbg : (t[k]).toNat = 33
        · have hbi : ((t[k]).toNat : Int) = 33 := by omega
          rw [hdr, hbg, prt_bang] at hQ
          have HQ := Lib.hid hQ
          clear hQ hdr
          --#a
          go_upto_block 2 with fail
          go_cut [10, 7] (fun n i wx => ∃ (z j : Nat), n = .int .i64 z ∧ i = .int .i64 j ∧ k + 1 ≤ j ∧ j ≤ t.size ∧ (j < t.size → isD ((natL t.data.toList).getD j 0) = false) ∧ Hid (DgE t (k + 1) j z) ∧ wr = wx)
          case first =>
            clear HQ
            --#b
            go_upto_region 18 with fail
            go_loopw [10, 7] (fun n i wx => ∃ (z j : Nat), n = .int .i64 z ∧ i = .int .i64 j ∧ k + 1 ≤ j ∧ j ≤ t.size ∧ Hid (DgI t (k + 1) j z) ∧ wr = wx) (fun _ i _ => t.size - (intOf i).toNat)
            case atStart => exact ⟨0, k + 1, rfl, by first | rfl | go_num, by omega, by omega, Lib.hid ⟨rfl, rfl, by omega⟩, rfl⟩
            case round =>
              obtain ⟨z, j, rfl, rfl, hj, hjt, hI, rfl⟩ := hrel
              by_cases hjl : j < t.size
              · have hgd : (natL t.data.toList).getD j 0 = (t[j]).toNat := by
                  have h := drop_at t j hjl
                  have h2 : ((natL t.data.toList).drop j).head? = some (t[j]).toNat := by rw [h]; rfl
                  rw [List.head?_drop] at h2
                  rw [List.getD_eq_getElem?_getD, h2]; rfl
                have hc8j : (t[j]).toNat < 256 := UInt8.toNat_lt _
                have hwj : IntKind.i64.wrap ((j : Int) + 1) = (j : Int) + 1 := IntWalk.i64_in _ (by omega)
                by_cases hdd : 48 ≤ (t[j]).toNat ∧ (t[j]).toNat ≤ 57
                · have hd : isD (t[j]).toNat = true := by unfold isD; simp; exact hdd
                  have HN := Lib.hid (dg_step t (k + 1) j z hjl hd hI.out)
                  have hz := hI.out.2.2
                  obtain ⟨h48, h57⟩ := hdd
                  have g48 : (48 : Int) ≤ ((t[j]).toNat : Int) := by omega
                  have g57 : ((t[j]).toNat : Int) ≤ 57 := by omega
                  have hu : IntKind.u8.wrap (((t[j]).toNat : Int) - 48) = ((t[j]).toNat : Int) - 48 := IntWalk.u8_in _ (by omega)
                  have hm1 : IntKind.i64.wrap (10 * (z : Int)) = 10 * (z : Int) := IntWalk.i64_in _ (by omega)
                  have hm2 : IntKind.i64.wrap (((t[j]).toNat : Int) - 48) = ((t[j]).toNat : Int) - 48 := IntWalk.i64_in _ (by omega)
                  have hm3 : IntKind.i64.wrap (10 * (z : Int) + (((t[j]).toNat : Int) - 48)) = 10 * (z : Int) + (((t[j]).toNat : Int) - 48) := IntWalk.i64_in _ (by omega)
                  clear hI
                  by_cases hbig : 65535 < 10 * z + ((t[j]).toNat - 48)
                  · have hac : acN z (t[j]).toNat = 65535 := by unfold acN; omega
                    rw [hac] at HN
                    have hbi2 : (65535 : Int) < 10 * (z : Int) + (((t[j]).toNat : Int) - 48) := by omega
                    clear hac
                    go_wp2_with fail
                    go_roundw
                    case rel => exact ⟨65535, j + 1, rfl, by go_num, by omega, by omega, HN, by first | rfl | trivial⟩
                    case measure => simp [intOf]; omega
                  · have hac : acN z (t[j]).toNat = 10 * z + ((t[j]).toNat - 48) := by unfold acN; omega
                    rw [hac] at HN
                    have hbi2 : ¬ (65535 : Int) < 10 * (z : Int) + (((t[j]).toNat : Int) - 48) := by omega
                    have hbi3 : 10 * (z : Int) + (((t[j]).toNat : Int) - 48) ≤ 65535 := by omega
                    clear hac
                    go_wp2_with fail
                    go_roundw
                    case rel => exact ⟨10 * z + ((t[j]).toNat - 48), j + 1, congrArg (Value.int .i64) (by omega), by go_num, by omega, by omega, HN, by first | rfl | trivial⟩
                    case measure => simp [intOf]; omega
                · have hd : isD (t[j]).toNat = false := by
                    unfold isD
                    rw [Bool.and_eq_false_iff, decide_eq_false_iff_not, decide_eq_false_iff_not]
                    by_cases h : 48 ≤ (t[j]).toNat
                    · exact .inr (fun h2 => hdd ⟨h, h2⟩)
                    · exact .inl h
                  have HN := Lib.hid (dg_stop t (k + 1) j z hjl hd hI.out)
                  have hf : j < t.size → isD ((natL t.data.toList).getD j 0) = false := fun _ => by rw [hgd]; exact hd
                  replace hf := Lib.hid hf
                  clear hI hgd hd
                  by_cases h48 : 48 ≤ (t[j]).toNat
                  · have g48 : (48 : Int) ≤ ((t[j]).toNat : Int) := by omega
                    have g57 : ¬ ((t[j]).toNat : Int) ≤ 57 := by omega
                    have g58 : (57 : Int) < ((t[j]).toNat : Int) := by omega
                    clear hdd
                    go_wp2_with fail
                    go_meet
                    exact ⟨z, j, rfl, rfl, hj, hjt, hf.out, HN, by first | rfl | trivial⟩
                  · have g48 : ¬ (48 : Int) ≤ ((t[j]).toNat : Int) := by omega
                    have g58 : ((t[j]).toNat : Int) < 48 := by omega
                    clear hdd
                    go_wp2_with fail
                    go_meet
                    exact ⟨z, j, rfl, rfl, hj, hjt, hf.out, HN, by first | rfl | trivial⟩
              · obtain rfl : j = t.size := by omega
                have HN := Lib.hid (dg_end t (k + 1) z hI.out)
                have hf : t.size < t.size → isD ((natL t.data.toList).getD t.size 0) = false := fun h => absurd h (Nat.lt_irrefl _)
                replace hf := Lib.hid hf
                clear hI
                go_wp2_with fail
                go_meet
                exact ⟨z, t.size, rfl, rfl, hj, hjt, hf.out, HN, by first | rfl | trivial⟩
          case rest =>
            obtain ⟨z, j, rfl, rfl, hj, hjt, hnd, hE, rfl⟩ := hcut
            --#c
            obtain ⟨hE1, hEz, hz5⟩ := hE.out
            have htm : tmN (((natL t.data.toList).drop (k + 1)).takeWhile isD) = if z = 0 then 1 else z := by unfold tmN; rw [hEz]
            have hyes := fun r h => prtR_yes ((natL t.data.toList).drop (k + 1)) r h
            generalize tmN (((natL t.data.toList).drop (k + 1)).takeWhile isD) = tm at *
            have htm1 : 1 ≤ tm ∧ tm ≤ 65535 := by rw [htm]; split <;> omega
            replace htm := Lib.hid htm; replace hyes := Lib.hid hyes; replace hE1 := Lib.hid hE1; replace hnd := Lib.hid hnd
            clear hE hEz
            go_upto_if 81 with fail
            go_cut [10] (fun v wx => v = .int .i64 (tm : Nat) ∧ wr = wx)
            case first =>
              clear hyes hE1 HQ hnd
              by_cases hz0 : z = 0
              · subst hz0
                go_wp2_with fail
                go_meet
                exact ⟨congrArg (Value.int .i64) (by rw [htm.out]; rfl), rfl⟩
              · have hzi : ((z : Int) == 0) = false := by simp; omega
                have hzj : ¬ (z : Int) = 0 := by omega
                go_wp2_with fail
                go_meet
                exact ⟨congrArg (Value.int .i64) (by rw [htm.out, if_neg hz0]), rfl⟩
            case rest =>
              obtain ⟨rfl, rfl⟩ := hcut
              clear htm hz5
              --#d
              by_cases hjl : j < t.size
              · have hej : ((j : Int) == (t.size : Int)) = false := by simp; omega
                have hej2 : ¬ (j : Int) = (t.size : Int) := by omega
                have hc8j : (t[j]).toNat < 256 := UInt8.toNat_lt _
                have hdj := drop_at t j hjl
                by_cases h59 : (t[j]).toNat = 59
                · have h59i : ((t[j]).toNat : Int) = 59 := by omega
                  have hwj : IntKind.i64.wrap ((j : Int) + 1) = (j : Int) + 1 := IntWalk.i64_in _ (by omega)
                  rw [h59] at hdj
                  have hp := hyes.out _ (hE1.out.trans hdj)
                  have hQ := HQ.out
                  rw [hp] at hQ
                  clear hp hdj hyes hE1 HQ hnd
                  have HSj := Lib.hid (fun W => HS.out (j + 1) (by omega) W)
                  obtain ⟨s1, s2⟩ := sem_le t (j + 1) (by omega)
                  obtain ⟨p1, p2⟩ := cutL_parts ((natL t.data.toList).drop (j + 1))
                  have hx : natL (t.extract (j + 1) (semN t (j + 1))).data.toList = (cutL ((natL t.data.toList).drop (j + 1))).1 := by
                    have e : semN t (j + 1) - (j + 1) = (cutL ((natL t.data.toList).drop (j + 1))).1.length := by unfold semN; omega
                    rw [natL_ext, List.drop_take, e]
                    exact p1.symm
                  have hy : (cutL ((natL t.data.toList).drop (j + 1))).2.1 = (natL t.data.toList).drop (semN t (j + 1) + 1) := by
                    have e : j + 1 + ((cutL ((natL t.data.toList).drop (j + 1))).1.length + 1) = semN t (j + 1) + 1 := by unfold semN; omega
                    rw [p2, List.drop_drop, e]
                  have HFx := Lib.hid (fun W => HF.out (t.extract (j + 1) (semN t (j + 1))) (by rw [ByteArray.size_extract]; omega) W)
                  rw [hx] at HFx
                  rw [hy] at hQ
                  have hbl := fun b h => fh_len (cutL ((natL t.data.toList).drop (j + 1))).1 b h
                  have hcl := cutL_len ((natL t.data.toList).drop (j + 1))
                  rw [List.length_drop, natB_len] at hcl
                  generalize fhL (cutL ((natL t.data.toList).drop (j + 1))).1 = q at *
                  generalize (cutL ((natL t.data.toList).drop (j + 1))).1.length = cl at *
                  generalize semN t (j + 1) = en at *
                  clear hx hy p1 p2
                  have c0 : (0 : Int) ≤ (j : Int) + 1 := by omega
                  have c1 : (j : Int) + 1 ≤ (en : Int) := by omega
                  have c2 : (en : Int) ≤ (t.size : Int) := by omega
                  have hwe : IntKind.i64.wrap ((en : Int) + 1) = (en : Int) + 1 := IntWalk.i64_in _ (by omega)
                  rcases q with _ | b
                  · have HV2 : Hid (V = .tuple #[.string ⟨#[]⟩, .int .i64 3]) := Lib.hid (by rw [HV.out, hQ]; rfl)
                    have HFn : Hid (∀ W, Calls Tryz.prog 46 #[.string (t.extract (j + 1) en)] W fun e w' => e = .returned (.tuple #[.string ⟨#[]⟩, .bool false]) ∧ Below W.heap.size W w') := Lib.hid (fun W => HFx.out W)
                    clear hQ HFx hbl
                    --#6
                    go_wp2_with fail
                    refine (HSj.out _).mono ?_
                    rintro e w1 ⟨rfl, rfl⟩
                    go_wp2_with fail
                    refine (HFn.out _).mono ?_
                    rintro e w2 ⟨rfl, hb2⟩
                    have HB2 := Lib.hid (HB.out.trans (hb2.mono HB.out.size))
                    clear hb2
                    go_wp2_with fail
                    go_ret2
                    exact ⟨by rw [HV2.out]; rfl, HB2.out⟩
                  · have hb2l := hbl b rfl
                    replace hQ : dcF (t.size + 1) M [] (natL t.data.toList) = if b ≠ [] ∧ (((M - o.length) / b.length : Nat) : Int) < (tm : Int) then (5, []) else dcF f' M (o ++ rep tm b) ((natL t.data.toList).drop (en + 1)) := hQ
                    have HFn : Hid (∀ W, Calls Tryz.prog 46 #[.string (t.extract (j + 1) en)] W fun e w' => e = .returned (.tuple #[.string (bstr b), .bool true]) ∧ Below W.heap.size W w') := Lib.hid (fun W => HFx.out W)
                    clear HFx hbl
                    by_cases hb0 : b = []
                    · subst hb0
                      rw [if_neg (fun h => h.1 rfl), rep_nil, List.append_nil] at hQ
                      have HN := Lib.hid hQ
                      have HFn2 : Hid (∀ W, Calls Tryz.prog 46 #[.string (t.extract (j + 1) en)] W fun e w' => e = .returned (.tuple #[.string ⟨#[]⟩, .bool true]) ∧ Below W.heap.size W w') := Lib.hid (fun W => HFn.out W)
                      have htp : (0 : Int) < (tm : Int) := by omega
                      clear hQ HFn
                      --#7
                      go_wp2_with fail
                      refine (HSj.out _).mono ?_
                      rintro e w1 ⟨rfl, rfl⟩
                      go_wp2_with fail
                      refine (HFn2.out _).mono ?_
                      rintro e w2 ⟨rfl, hb2⟩
                      have HB2 := Lib.hid (HB.out.trans (hb2.mono HB.out.size))
                      clear hb2
                      generalize hxo : bstr o = xo at *
                      replace hxo := Lib.hid hxo
                      go_upto_region 32 with fail
                      go_loopw [6, 14] (fun s i wx => s = .string xo ∧ i = .int .i64 0 ∧ w2 = wx) (fun _ _ _ => 0)
                      case atStart => exact ⟨rfl, rfl, rfl⟩
                      case round =>
                        obtain ⟨rfl, rfl, rfl⟩ := hrel
                        go_wp2_with fail
                        go_roundw
                        case rel => exact ⟨en + 1, f', o, by rw [hxo.out], by go_num, by omega, by omega, by omega, HB2.out, HN⟩
                        case measure => simp [intOf]; omega
                    · have hbp : 0 < b.length := List.length_pos_iff.2 hb0
                      have hxb : (bstr b).size ≠ 0 := by rw [bstr_size]; omega
                      obtain ⟨xne, xemp⟩ := str_some (bstr b) hxb
                      have hbs : (bstr b).size = b.length := bstr_size b
                      have HQ := Lib.hid hQ
                      have hadd : ∀ (i : Nat) W, i * b.length ≤ 100000 → (Op.stringOp .add (bstr (o ++ rep (i : Nat) b)) (bstr b)).run Tryz.prog W = .ok (.string (bstr (o ++ rep ((i + 1 : Nat) : Int) b))) W := fun i W hi => by
                        have hrl : (rep (i : Nat) b).length = i * b.length := by rw [rep_len]; rfl
                        rw [run_string_add_sum W _ _ (by rw [bstr_size, bstr_size, List.length_append, hrl]; omega), bstr_app, rep_succ, List.append_assoc]
                      have HA := Lib.hid hadd
                      have hst : bstr o = bstr (o ++ rep ((0 : Nat) : Int) b) := by
                        rw [show rep ((0 : Nat) : Int) b = [] from rfl, List.append_nil]
                      have hsz : ∀ i : Nat, (bstr (o ++ rep (i : Nat) b)).size = o.length + i * b.length := fun i => by
                        rw [bstr_size, List.length_append, rep_len]; rfl
                      replace hst := Lib.hid hst; replace hsz := Lib.hid hsz
                      clear hQ hadd
                      --#8
                      go_wp2_with fail
                      refine (HSj.out _).mono ?_
                      rintro e w1 ⟨rfl, rfl⟩
                      go_wp2_with fail
                      refine (HFn.out _).mono ?_
                      rintro e w2 ⟨rfl, hb2⟩
                      have HB2 := Lib.hid (HB.out.trans (hb2.mono HB.out.size))
                      clear hb2
                      generalize bstr b = xb at *
                      go_upto_region 32 with fail
                      --#e
                      go_loopw [6, 14] (fun s i wx => ∃ m : Nat, s = .string (bstr (o ++ rep (m : Nat) b)) ∧ i = .int .i64 m ∧ m ≤ tm ∧ o.length + m * b.length ≤ M ∧ w2 = wx) (fun _ i _ => tm - (intOf i).toNat)
                      case atStart => exact ⟨0, congrArg Value.string hst.out, rfl, by omega, by omega, rfl⟩
                      case round =>
                        obtain ⟨m, rfl, rfl, hm, hml, rfl⟩ := hrel
                        by_cases hmt : m < tm
                        · have hadd := fun W => HA.out m W (by omega)
                          have hs1 := hsz.out (m + 1)
                          have hs2 : (m + 1) * b.length = m * b.length + b.length := Nat.succ_mul _ _
                          have hwm : IntKind.i64.wrap ((m : Int) + 1) = (m : Int) + 1 := IntWalk.i64_in _ (by omega)
                          have hmi : (m : Int) < (tm : Int) := by omega
                          by_cases hfull : M < o.length + (m + 1) * b.length
                          · have hq2 : (M - o.length) / b.length < tm := by
                              rw [Nat.div_lt_iff_lt_mul hbp]
                              have : (m + 1) * b.length ≤ tm * b.length := Nat.mul_le_mul_right _ (by omega)
                              omega
                            have HV2 : Hid (V = .tuple #[.string ⟨#[]⟩, .int .i64 5]) := Lib.hid (by rw [HV.out, HQ.out, if_pos ⟨hb0, by omega⟩]; rfl)
                            generalize bstr (o ++ rep ((m + 1 : Nat) : Int) b) = xs at *
                            generalize bstr (o ++ rep (m : Nat) b) = xr at *
                            have hsj : (M : Int) < (xs.size : Int) := by omega
                            clear hs2 hq2 hs1 hfull
                            go_wp2_with fail
                            go_ret2
                            exact ⟨by rw [HV2.out]; rfl, HB2.out⟩
                          · generalize hxs : bstr (o ++ rep ((m + 1 : Nat) : Int) b) = xs at *
                            generalize bstr (o ++ rep (m : Nat) b) = xr at *
                            replace hxs := Lib.hid hxs
                            have hsj : ¬ (M : Int) < (xs.size : Int) := by omega
                            have hsk : (xs.size : Int) ≤ (M : Int) := by omega
                            have hnf : o.length + (m + 1) * b.length ≤ M := by omega
                            clear hs2 hs1 hfull
                            go_wp2_with fail
                            go_roundw
                            case rel => exact ⟨m + 1, by rw [hxs.out], by go_num, by omega, hnf, by first | rfl | trivial⟩
                            case measure => simp [intOf]; omega
                        · obtain rfl : m = tm := by omega
                          have hq2 : ¬ (M - o.length) / b.length < m := by
                            rw [Nat.not_lt, Nat.le_div_iff_mul_le hbp]
                            omega
                          have HN : Hid (dcF (t.size + 1) M [] (natL t.data.toList) = dcF f' M (o ++ rep (m : Nat) b) ((natL t.data.toList).drop (en + 1))) := Lib.hid (by rw [HQ.out, if_neg (fun h => hq2 (by have := h.2; omega))])
                          have hol : (o ++ rep (m : Nat) b).length ≤ M := by rw [List.length_append, rep_len]; exact hml
                          generalize hxs : bstr (o ++ rep (m : Nat) b) = xs at *
                          replace hxs := Lib.hid hxs
                          have hmi : ¬ (m : Int) < (m : Int) := by omega
                          clear hmt hq2
                          go_wp2_with fail
                          go_roundw
                          case rel => exact ⟨en + 1, f', o ++ rep (m : Nat) b, by rw [hxs.out], by go_num, by omega, by omega, hol, HB2.out, HN⟩
                          case measure => simp [intOf]; omega
                · have hd59 : ¬ ((t[j]).toNat : Int) = 59 := by omega
                  have hp := prtR_no _ _ _ (hE1.out.trans hdj) h59 hc8j
                  have HV2 : Hid (V = .tuple #[.string ⟨#[]⟩, .int .i64 3]) := Lib.hid (by rw [HV.out, HQ.out, hp]; rfl)
                  clear hp hdj hyes hE1 HQ hnd
                  --#9
                  go_wp2_with fail
                  go_ret2
                  exact ⟨by rw [HV2.out]; rfl, HB.out⟩
              · obtain rfl : j = t.size := by omega
                have hp := prtR_nil _ (hE1.out.trans (drop_end t))
                have HV2 : Hid (V = .tuple #[.string ⟨#[]⟩, .int .i64 3]) := Lib.hid (by rw [HV.out, HQ.out, hp]; rfl)
                clear hp hyes hE1 HQ hnd hjl
                --#10
                go_wp2_with fail
                go_ret2
                exact ⟨by rw [HV2.out]; rfl, HB.out⟩
        · have hbi : ¬ ((t[k]).toNat : Int) = 33 := by omega
          rw [hdr, prt_plain _ (by simpa using hbg)] at hQ
          by_cases hend : k + 1 = t.size
          · have hd2 : (natL t.data.toList).drop (k + 1) = [] := by rw [hend]; exact drop_end t
            rw [hd2, prtB_one] at hQ
            have HV2 : Hid (V = .tuple #[.string ⟨#[]⟩, .int .i64 3]) := Lib.hid (by rw [HV.out, hQ]; rfl)
            have he1 : ((k : Int) + 1 == (t.size : Int)) = true := by simp; omega
            clear hQ hdr hd2
            --#1
            go_wp2_with fail
            go_ret2
            exact ⟨by rw [HV2.out]; rfl, HB.out⟩
          · have he1 : ((k : Int) + 1 == (t.size : Int)) = false := by simp; omega
            have hlt : k + 1 < t.size := by omega
            rw [drop_at t (k + 1) hlt, prtB_two] at hQ
            have hx : natL (t.extract k (k + 2)).data.toList = [(t[k]).toNat, (t[k + 1]).toNat] := by
              rw [natL_ext, List.drop_take, hdr, drop_at t (k + 1) hlt, show k + 2 - k = 2 from by omega]
              rfl
            have HFx := Lib.hid (fun W => HF.out (t.extract k (k + 2)) (by rw [ByteArray.size_extract]; omega) W)
            rw [hx] at HFx
            have hl2 : ∀ b, fhL [(t[k]).toNat, (t[k + 1]).toNat] = some b → b.length = 1 := fun b h => by have := fh_len _ _ h; simp at this; omega
            generalize fhL [(t[k]).toNat, (t[k + 1]).toNat] = q at *
            have c0 : (0 : Int) ≤ (k : Int) := by omega
            have c1 : (k : Int) ≤ (k : Int) + 2 := by omega
            have c2 : (k : Int) + 2 ≤ (t.size : Int) := by omega
            clear hdr hx
            rcases q with _ | b
            · have HV2 : Hid (V = .tuple #[.string ⟨#[]⟩, .int .i64 3]) := Lib.hid (by rw [HV.out, hQ]; rfl)
              have HFn : Hid (∀ W, Calls Tryz.prog 46 #[.string (t.extract k (k + 2))] W fun e w' => e = .returned (.tuple #[.string ⟨#[]⟩, .bool false]) ∧ Below W.heap.size W w') := Lib.hid (fun W => HFx.out W)
              clear hQ HFx hl2
              --#2
              go_wp2_with fail
              refine (HFn.out _).mono ?_
              rintro e w2 ⟨rfl, hb2⟩
              have HB2 := Lib.hid (HB.out.trans (hb2.mono HB.out.size))
              clear hb2
              go_wp2_with fail
              go_ret2
              exact ⟨by rw [HV2.out]; rfl, HB2.out⟩
            · have hl := hl2 b rfl
              have HFn : Hid (∀ W, Calls Tryz.prog 46 #[.string (t.extract k (k + 2))] W fun e w' => e = .returned (.tuple #[.string (bstr b), .bool true]) ∧ Below W.heap.size W w') := Lib.hid (fun W => HFx.out W)
              have hbne : b ≠ [] := by intro h; rw [h] at hl; simp at hl
              replace hQ : dcF (t.size + 1) M [] (natL t.data.toList) = if b ≠ [] ∧ (((M - o.length) / b.length : Nat) : Int) < 1 then (5, []) else dcF f' M (o ++ rep 1 b) ((natL t.data.toList).drop (k + 1 + 1)) := hQ
              have hr1 : rep 1 b = b := by unfold rep; simp
              rw [hl, Nat.div_one, hr1] at hQ
              have hadd : ∀ W, (Op.stringOp .add (bstr o) (bstr b)).run Tryz.prog W = .ok (.string (bstr (o ++ b))) W := fun W => by
                rw [run_string_add_sum W _ _ (by rw [bstr_size, bstr_size]; omega), bstr_app]
              have hsz : (bstr (o ++ b)).size = o.length + 1 := by rw [bstr_size, List.length_append, hl]
              clear HFx hl2 hr1
              by_cases hfull : M < o.length + 1
              · have HV2 : Hid (V = .tuple #[.string ⟨#[]⟩, .int .i64 5]) := Lib.hid (by rw [HV.out, hQ, if_pos ⟨hbne, by omega⟩]; rfl)
                have hfi : ¬ ((o.length : Int) + 1 ≤ (M : Int)) := by omega
                have hfj : (M : Int) < (o.length : Int) + 1 := by omega
                clear hQ
                --#3
                go_wp2_with fail
                refine (HFn.out _).mono ?_
                rintro e w2 ⟨rfl, hb2⟩
                have HB2 := Lib.hid (HB.out.trans (hb2.mono HB.out.size))
                clear hb2
                generalize bstr (o ++ b) = x at *
                generalize bstr o = x1 at *
                generalize bstr b = x2 at *
                have hsi : (x.size : Int) = (o.length : Int) + 1 := by omega
                have hsj : (M : Int) < (x.size : Int) := by omega
                go_wp2_with fail
                go_ret2
                exact ⟨by rw [HV2.out]; rfl, HB2.out⟩
              · rw [if_neg (fun h => by have := h.2; omega)] at hQ
                have HN := Lib.hid hQ
                clear hQ
                --#4
                go_wp2_with fail
                refine (HFn.out _).mono ?_
                rintro e w2 ⟨rfl, hb2⟩
                have HB2 := Lib.hid (HB.out.trans (hb2.mono HB.out.size))
                clear hb2
                generalize hxx : bstr (o ++ b) = x at *
                generalize bstr o = x1 at *
                generalize bstr b = x2 at *
                replace hxx := Lib.hid hxx
                have hsj : ¬ (M : Int) < (x.size : Int) := by omega
                have hsk : (x.size : Int) ≤ (M : Int) := by omega
                go_wp2_with fail
                go_roundw
                case rel => exact ⟨k + 2, f', o ++ b, by rw [hxx.out], by go_num, by omega, by omega, by rw [List.length_append]; omega, HB2.out, HN⟩
                case measure => simp [intOf]; omega
      · have hdr : (natL t.data.toList).drop k = [] := List.drop_of_length_le (by rw [natB_len]; omega)
        have HV2 : Hid (V = .tuple #[.string (bstr o), .int .i64 0]) := Lib.hid (by rw [HV.out, hq.out, hdr]; rfl)
        have hgi : ¬ (k : Int) < (t.size : Int) := by omega
        clear hdr hq
        --#5
        go_wp2_with fail
        go_ret2
        exact ⟨by rw [HV2.out]; rfl, HB.out⟩
end Go.Proofs.YtnbbepkkedhhgaaGreatDoor

namespace Go.Proofs.YtnbbepkkedhhgaaGreatDoor

open Go Go.RowKit

theorem dcF_len : ∀ (f M : Nat) (out l : List Nat), out.length ≤ M → (dcF f M out l).2.length ≤ M ∧ ((dcF f M out l).1 = 0 ∨ (dcF f M out l).1 = 3 ∨ (dcF f M out l).1 = 5)
  | 0, M, out, l, h => by simp [dcF]
  | f + 1, M, out, l, h => by
    by_cases hl : l = []
    · subst hl
      rw [dcF_nil]
      exact ⟨h, .inl rfl⟩
    · rw [dcF_cons f M out l hl]
      have hf := fun b n r g => prt_facts l b n r hl g
      generalize prt l = o at *
      rcases o with _ | ⟨b, n, r⟩
      · simp
      · obtain ⟨n1, n2, _, _, _⟩ := hf b n r rfl
        show (if b ≠ [] ∧ (((M - out.length) / b.length : Nat) : Int) < n then ((5 : Int), ([] : List Nat)) else dcF f M (out ++ rep n b) r).2.length ≤ M ∧ ((if b ≠ [] ∧ (((M - out.length) / b.length : Nat) : Int) < n then ((5 : Int), ([] : List Nat)) else dcF f M (out ++ rep n b) r).1 = 0 ∨ (if b ≠ [] ∧ (((M - out.length) / b.length : Nat) : Int) < n then ((5 : Int), ([] : List Nat)) else dcF f M (out ++ rep n b) r).1 = 3 ∨ (if b ≠ [] ∧ (((M - out.length) / b.length : Nat) : Int) < n then ((5 : Int), ([] : List Nat)) else dcF f M (out ++ rep n b) r).1 = 5)
        by_cases hfull : b ≠ [] ∧ (((M - out.length) / b.length : Nat) : Int) < n
        · rw [if_pos hfull]
          simp
        · rw [if_neg hfull]
          refine dcF_len f M _ r ?_
          rw [List.length_append, rep_len]
          by_cases hb : b = []
          · subst hb; simpa using h
          · have hbp : 0 < b.length := List.length_pos_iff.2 hb
            have : n.toNat ≤ (M - out.length) / b.length := by
              have : ¬ (((M - out.length) / b.length : Nat) : Int) < n := fun h2 => hfull ⟨hb, h2⟩
              omega
            have := (Nat.le_div_iff_mul_le hbp).1 this
            omega
set_option maxHeartbeats 2000000 in
theorem shortM_any (s : ByteArray) (_hs : s.size ≤ maxLen) (n : Nat) (hn : n ≤ 100000) (w : World) :
    Calls Tryz.prog 15 #[.string s, .int .i64 n] w fun e w' => (∃ t : ByteArray, t.size ≤ n ∧ t.size ≤ s.size ∧ e = .returned (.string t) ∧ (s.size ≤ n → t = s)) ∧ w = w' := by
  by_cases h : s.size ≤ n
  · have g : ¬ (n : Int) < (s.size : Int) := by omega
    go_enter Tryz.func15, Tryz.ntmps15
    go_wp2_with fail
    go_ret
    exact ⟨⟨s, h, Nat.le_refl _, rfl, by first | exact fun _ => rfl | rfl⟩, by first | rfl | trivial⟩
  · have g : (n : Int) < (s.size : Int) := by omega
    have c : (n : Int) ≤ (s.size : Int) := by omega
    go_enter Tryz.func15, Tryz.ntmps15
    go_wp2_with fail
    go_ret
    exact ⟨⟨s.extract 0 n, by rw [ByteArray.size_extract]; omega, by rw [ByteArray.size_extract]; omega, rfl, by first | exact fun h2 => absurd h2 h | (intro h2; exact absurd h2 h)⟩, by first | rfl | trivial⟩
theorem aw_d1 : dcF 13 99 [] (natL (⟨#[52, 49, 33, 51, 59, 52, 50, 52, 51, 59, 52, 52]⟩ : ByteArray).data.toList) = (0, [65, 66, 67, 66, 67, 66, 67, 68]) := by decide +kernel
theorem aw_d2 : dcF 7 9 [] (natL (⟨#[33, 57, 57, 59, 52, 49]⟩ : ByteArray).data.toList) = (5, []) := by decide +kernel
theorem aw_v1 : dcV (0, [65, 66, 67, 66, 67, 66, 67, 68]) = .tuple #[.string ⟨#[65, 66, 67, 66, 67, 66, 67, 68]⟩, .int .i64 0] := by
  unfold dcV
  have e : bstr [65, 66, 67, 66, 67, 66, 67, 68] = ⟨#[65, 66, 67, 66, 67, 66, 67, 68]⟩ := by
    apply ByteArray.ext; apply Array.ext'; rw [bstr_list]; rfl
  rw [e]
set_option maxRecDepth 100000 in
set_option maxHeartbeats 2000000 in
theorem macAwake_any (w : World) (he : ErrS w) : Calls Tryz.prog 4 #[] w fun e w' => e = .returned (.bool true) ∧ Below w.heap.size w w' := by
  have H1 := Lib.hid (fun W h => decode_any ⟨#[52, 49, 33, 51, 59, 52, 50, 52, 51, 59, 52, 52]⟩ (by decide) 99 (by decide) 99 (by decide) W h)
  have H2 := Lib.hid (fun W h => decode_any ⟨#[33, 57, 57, 59, 52, 49]⟩ (by decide) 9 (by decide) 9 (by decide) W h)
  rw [show ((⟨#[52, 49, 33, 51, 59, 52, 50, 52, 51, 59, 52, 52]⟩ : ByteArray).size + 1) = 13 from rfl, aw_d1, aw_v1] at H1
  rw [show ((⟨#[33, 57, 57, 59, 52, 49]⟩ : ByteArray).size + 1) = 7 from rfl, aw_d2] at H2
  have H3 : Hid (∀ W, ErrS W → Calls Tryz.prog 12 #[.string ⟨#[33, 57, 57, 59, 52, 49]⟩, .int .i64 9] W fun e w' => e = .returned (.tuple #[.string ⟨#[]⟩, .int .i64 5]) ∧ Below W.heap.size W w') := Lib.hid (fun W h => H2.out W h)
  have HE := Lib.hid he
  clear H2 he
  go_enter Tryz.func4, Tryz.ntmps4
  go_wp2_with fail
  refine (H1.out _ HE.out).mono ?_
  rintro e w1 ⟨rfl, hb1⟩
  have HB1 := Lib.hid hb1
  clear hb1
  go_wp2_with fail
  refine (H3.out _ (HE.out.next HB1.out)).mono ?_
  rintro e w2 ⟨rfl, hb2⟩
  have HB2 := Lib.hid (HB1.out.trans (hb2.mono HB1.out.size))
  clear hb2
  go_wp2_with fail
  go_ret
  exact ⟨by rfl, HB2.out⟩
end Go.Proofs.YtnbbepkkedhhgaaGreatDoor

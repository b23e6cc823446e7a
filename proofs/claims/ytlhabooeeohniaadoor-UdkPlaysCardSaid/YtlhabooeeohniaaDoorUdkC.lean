/-
  The numbers of the keys; the place of one.
  A decimal number of a key, read by the library.
  A text cut at its first slash; a key's definition.
-/
import Derived.Test.YtlhabooeeohniaaDoorHexE
import Derived.Lib.Bytealg
import Derived.Lib.Strings
import Derived.Laws.Externs
import Derived.Laws.Strings3
namespace Go.Proofs.YtlhabooeeohniaaDoor

open Go Go.RowKit

def nthU : Nat → Int
  | 0 => 17 | 1 => 18 | 2 => 19 | 3 => 20 | 4 => 21 | 5 => 23 | 6 => 24 | 7 => 25 | 8 => 26 | 9 => 28 | 10 => 29 | 11 => 31 | 12 => 32 | 13 => 33 | 14 => 34 | _ => 0
def numCells : List Value := (List.range 15).map fun k => .int .i64 (nthU k)
def numV : Value := .agg numCells.toArray
/-- The world holds the keys' numbers. -/
def Nums (w : World) : Prop := 0 < w.heap.size ∧ ∀ j v, numCells[j]? = some v → w.cell? ⟨0, j, none⟩ = some v
theorem Nums.next {w w' : World} (h : Nums w) (hb : Below w.heap.size w w') : Nums w' :=
  ⟨Nat.lt_of_lt_of_le h.1 hb.size, fun j v hj => (hb.cell (p := ⟨0, j, none⟩) h.1).trans (h.2 j v hj)⟩
theorem info_nums : (Tryd.prog.info? 65).map (·.size) = some numCells.length := by kernel_rfl
theorem load_nums {w : World} (h : Nums w) : (loadVar 65 ⟨0, 0, none⟩).run Tryd.prog w = .ok numV w := by
  have hl : (loadCells ⟨0, 0, none⟩ numCells.length).run Tryd.prog w = .ok numCells.toArray w :=
    run_loadCells_list w ⟨0, 0, none⟩ numCells (fun j v hv => by
      have hadd : (⟨0, 0, none⟩ : Addr).add j = ⟨0, j, none⟩ := by unfold Addr.add; split <;> simp_all
      rw [hadd]; exact h.2 j v hv)
  obtain ⟨i, hq, hs⟩ := Option.map_eq_some_iff.1 info_nums
  have hagg : (isAgg 65).run Tryd.prog w = .ok true w := by kernel_rfl
  simp only [loadVar, Sem.run_bind, hagg, Result.andThen_ok, sizeOf, typeInfo]
  simp [hq, hs, hl, numV]
theorem wpList_load_nums {ops : Array Oper} {rest : List Oper} {o : Oper} {a : Act} {w : World} {Q : Exit → Act → World → Prop} (h : Nums w) (hgd : o.guard = none) (x : Operand) (ho : o.op = .load 65 x)
    (hx : a.eval x = .pointer (some ⟨0, 0, none⟩)) (hk : wpList Tryd.prog ops Q rest (a.put o.dst numV) w) : wpList Tryd.prog ops Q (o :: rest) a w :=
  wpList_plain hgd fun _ hK => by
    unfold Oper.wp execOp
    simp only [ho, hx, Instr.loadAt, Instr.sureAddr, Sem.run_bind, Sem.run_pure, Result.andThen_ok, load_nums h]
    exact hK _ _ hk
theorem idx_nums : ∀ (k : Nat), k < 15 → ∀ (w : World), (Instr.index 65 numV (.int .i64 k)).run Tryd.prog w = .ok (.int .i64 (nthU k)) w
  | 0, _, _ => by kernel_rfl | 1, _, _ => by kernel_rfl | 2, _, _ => by kernel_rfl | 3, _, _ => by kernel_rfl | 4, _, _ => by kernel_rfl
  | 5, _, _ => by kernel_rfl | 6, _, _ => by kernel_rfl | 7, _, _ => by kernel_rfl | 8, _, _ => by kernel_rfl | 9, _, _ => by kernel_rfl
  | 10, _, _ => by kernel_rfl | 11, _, _ => by kernel_rfl | 12, _, _ => by kernel_rfl | 13, _, _ => by kernel_rfl | 14, _, _ => by kernel_rfl
/-- The place of a key; -1: it is none. -/
def plcK (key : Int) : Nat → Nat → Int
  | 0, _ => -1
  | f + 1, k => if nthU k = key then (k : Int) else plcK key f (k + 1)
def plc (key : Int) : Int := plcK key 15 0
set_option maxHeartbeats 2000000 in
theorem place_any (key : Int) (w : World) (hn : Nums w) : Calls Tryd.prog 25 #[.int .i64 key] w fun e w' => e = .returned (.int .i64 (plc key)) ∧ w = w' := by
  obtain ⟨V, hV⟩ : ∃ V, V = plc key := ⟨_, rfl⟩
  rw [← hV]
  replace hV := Lib.hid hV
  go_enter Tryd.func25, Tryd.ntmps25
  go_upto_region 2 with (with_reducible refine wpList_load_nums hn rfl _ rfl rfl ?_)
  go_loopw [6] (fun i wr => ∃ k : Nat, k ≤ 15 ∧ i = .int .i64 k ∧ Hid (V = plcK key (15 - k) k) ∧ w = wr) (fun i _ => 15 - (intOf i).toNat)
  case atStart => exact ⟨0, by omega, rfl, hV, rfl⟩
  case round =>
    obtain ⟨k, hk, rfl, hI, rfl⟩ := hrel
    by_cases hlt : k < 15
    · have hi := idx_nums k hlt
      have hs : V = if nthU k = key then (k : Int) else plcK key (15 - (k + 1)) (k + 1) := by
        rw [hI.out, show 15 - k = (15 - (k + 1)) + 1 from by omega]
        rfl
      have hwk : IntKind.i64.wrap ((k : Int) + 1) = (k : Int) + 1 := IntWalk.i64_in _ (by omega)
      clear hI hV
      by_cases he : nthU k = key
      · rw [if_pos he] at hs
        have HS := Lib.hid hs
        subst he
        clear hs
        generalize nthU k = z at *
        go_wp2_with fail
        go_ret
        exact ⟨by rw [HS.out]; rfl, by first | rfl | trivial⟩
      · rw [if_neg he] at hs
        have HS := Lib.hid hs
        have heb : (nthU k == key) = false := by simpa using he
        clear hs
        generalize nthU k = z at *
        go_wp2_with fail
        go_roundw
        case rel => exact ⟨k + 1, by omega, by go_num, HS, by first | rfl | trivial⟩
        case measure => simp [intOf]; omega
    · obtain rfl : k = 15 := by omega
      have HS : Hid (V = -1) := Lib.hid hI.out
      clear hI hV
      go_wp2_with fail
      go_ret
      exact ⟨by rw [HS.out]; rfl, by first | rfl | trivial⟩
end Go.Proofs.YtlhabooeeohniaaDoor

namespace Go.Proofs.YtlhabooeeohniaaDoor

open Go Go.RowKit

def ErrR (w : World) : Prop := 5 < w.heap.size ∧ ∃ te pe, w.cell? ⟨5, 0, none⟩ = some (.iface te pe)
theorem ErrR.next {w w' : World} (h : ErrR w) (hb : Below w.heap.size w w') : ErrR w' := by
  obtain ⟨h1, te, pe, h2⟩ := h
  exact ⟨Nat.lt_of_lt_of_le h1 hb.size, te, pe, (hb.cell (p := ⟨5, 0, none⟩) h1).trans h2⟩
/-- What a decimal text is; none: no number, or one beyond a byte. -/
def puK (t : ByteArray) : Option Nat := if t.size = 0 then none else match Lib.parseUintM 255 0 t.data.toList with
  | .ok n => some n
  | _ => none
theorem pu_le : ∀ (l : List UInt8) (acc n : Nat), acc ≤ 255 → Lib.parseUintM 255 acc l = .ok n → n ≤ 255
  | [], acc, n, ha, h => by
    unfold Lib.parseUintM at h
    injection h with h
    omega
  | c :: l, acc, n, ha, h => by
    unfold Lib.parseUintM at h
    split at h
    · split at h
      · cases h
      · split at h
        · cases h
        · rename_i _ hle
          exact pu_le l _ n (by omega) h
    · cases h
def PuT (o : Option Nat) (e : Ending) : Prop := match o with
  | some n => n ≤ 255 ∧ e = .returned (.tuple #[.int .u64 (n : Nat), .nilIface])
  | none => ∃ (v : Nat) (te : TypeId) (pe : Value), (v = 0 ∨ v = 255) ∧ e = .returned (.tuple #[.int .u64 (v : Nat), .iface te pe])
set_option maxRecDepth 100000 in
set_option maxHeartbeats 4000000 in
theorem puEmpty_any (w : World) : Calls Tryd.prog 42 #[.string ⟨#[]⟩, .int .i64 10, .int .i64 8] w fun e w' => e = .returned (.tuple #[.int .u64 0, .iface 91 (.int .i64 2)]) ∧ w' = w := by
  go_enter Tryd.func42, Tryd.ntmps42
  go_wp2
  go_ret2
  exact ⟨rfl, rfl⟩
set_option maxRecDepth 100000 in
set_option maxHeartbeats 4000000 in
theorem pu10_any (t : ByteArray) (hsz : t.size ≤ 100000) (w : World) (hs : ErrS w) (hr : ErrR w) :
    Calls Tryd.prog 35 #[.string t, .int .i64 10, .int .i64 8] w fun e w' => PuT (puK t) e ∧ Below w.heap.size w w' := by
  have hI : ∃ (W1 : World) (R : Lib.NumEnd Nat), Below w.heap.size w W1 ∧ (puK t = match R with | .ok n => some n | _ => none) ∧ (∀ n, R = .ok n → n ≤ 255) ∧ Calls Tryd.prog 42 #[.string t, .int .i64 10, .int .i64 8] w fun e w' => e = .returned (Lib.uintTupleM 91 255 R) ∧ w' = W1 := by
    by_cases h0 : t.size = 0
    · obtain rfl : t = ⟨#[]⟩ := ByteArray.ext (Array.eq_empty_of_size_eq_zero h0)
      exact ⟨w, .syntax, Below.refl _ _, (by show puK ⟨#[]⟩ = none; rfl), (fun n h => by cases h), puEmpty_any w⟩
    · refine ⟨Lib.bytesWorld w 5 t, Lib.parseUintM 255 0 t.data.toList, bytesW_below w _ t, (by unfold puK; rw [if_neg h0]), (fun n h => pu_le _ 0 n (by omega) h), Tryd.internal_strconv_ParseUint_10_b8 t h0 (by omega) w⟩
  obtain ⟨W1, R, hB, hk, hle, hC⟩ := hI
  rw [hk]
  have HB := Lib.hid hB
  obtain ⟨_, te, pe, hc⟩ := hs.next hB
  obtain ⟨_, te2, pe2, hc2⟩ := hr.next hB
  have HS := Lib.hid (Tryd.strconv_toError_syntax ⟨#[80, 97, 114, 115, 101, 85, 105, 110, 116]⟩ t 10 8 (.iface te pe) W1 (by omega) hc (.inr ⟨te, pe, rfl⟩))
  have HR := Lib.hid (Tryd.strconv_toError_range ⟨#[80, 97, 114, 115, 101, 85, 105, 110, 116]⟩ t 10 8 (.iface te2 pe2) W1 (by omega) hc2 (.inr ⟨te2, pe2, rfl⟩))
  have HC := Lib.hid hC
  clear hB hk hC hc hc2 hs hr
  rcases R with n | _ | _
  · have hn := hle n rfl
    have HCn : Hid (Calls Tryd.prog 42 #[.string t, .int .i64 10, .int .i64 8] w fun e w' => e = .returned (.tuple #[.int .u64 (n : Nat), .nilIface]) ∧ w' = W1) := HC
    clear HC HS HR hle
    go_enter Tryd.func35, Tryd.ntmps35
    go_wp2_with (refine HCn.out.mono ?_; rintro e w' ⟨rfl, rfl⟩)
    go_ret2
    exact ⟨⟨hn, rfl⟩, HB.out⟩
  · have HCn : Hid (Calls Tryd.prog 42 #[.string t, .int .i64 10, .int .i64 8] w fun e w' => e = .returned (.tuple #[.int .u64 0, .iface 91 (.int .i64 2)]) ∧ w' = W1) := HC
    clear HC HR hle
    go_enter Tryd.func35, Tryd.ntmps35
    go_wp2_with (first | (refine HCn.out.mono ?_; rintro e w' ⟨rfl, rfl⟩) | (refine HS.out.mono ?_; rintro e w' ⟨n, rfl, _, _, hb2⟩; have HB2 := Lib.hid hb2; clear hb2))
    go_ret2
    exact ⟨⟨0, _, _, .inl rfl, rfl⟩, HB.out.trans (HB2.out.mono HB.out.size)⟩
  · have HCn : Hid (Calls Tryd.prog 42 #[.string t, .int .i64 10, .int .i64 8] w fun e w' => e = .returned (.tuple #[.int .u64 255, .iface 91 (.int .i64 1)]) ∧ w' = W1) := HC
    clear HC HS hle
    go_enter Tryd.func35, Tryd.ntmps35
    go_wp2_with (first | (refine HCn.out.mono ?_; rintro e w' ⟨rfl, rfl⟩) | (refine HR.out.mono ?_; rintro e w' ⟨n, rfl, _, _, hb2⟩; have HB2 := Lib.hid hb2; clear hb2))
    go_ret2
    exact ⟨⟨255, _, _, .inr rfl, rfl⟩, HB.out.trans (HB2.out.mono HB.out.size)⟩
end Go.Proofs.YtlhabooeeohniaaDoor

namespace Go.Proofs.YtlhabooeeohniaaDoor

open Go Go.RowKit

theorem idx47 (l : List UInt8) : (Lib.indexByte l 47 = -1 ∧ ∀ b ∈ l, b ≠ 47) ∨ ∃ i : Nat, Lib.indexByte l 47 = i ∧ i < l.length ∧ l = l.take i ++ 47 :: l.drop (i + 1) ∧ ∀ b ∈ l.take i, b ≠ 47 := by
  induction l with
  | nil => exact .inl ⟨rfl, by simp⟩
  | cons c l ih =>
    by_cases hc : c = 47
    · subst hc
      exact .inr ⟨0, by simp [Lib.indexByte], by simp, by simp, by simp⟩
    · have hb : (c == 47) = false := by simpa using hc
      rcases ih with ⟨h1, h2⟩ | ⟨i, h1, h2, h3, h4⟩
      · refine .inl ⟨by simp [Lib.indexByte, hb, h1], fun b hm => ?_⟩
        rcases List.mem_cons.1 hm with rfl | hm
        · exact hc
        · exact h2 b hm
      · refine .inr ⟨i + 1, ?_, by simp; omega, ?_, fun b hm => ?_⟩
        · have : ((i : Int) == -1) = false := by rw [beq_eq_false_iff_ne]; omega
          simp [Lib.indexByte, hb, h1, this]
        · rw [List.take_succ_cons, List.drop_succ_cons, List.cons_append, ← h3]
        · rw [List.take_succ_cons] at hm
          rcases List.mem_cons.1 hm with rfl | hm
          · exact hc
          · exact h4 b hm
set_option maxHeartbeats 1000000 in
set_option maxRecDepth 100000 in
theorem iByteQ_any (s : ByteArray) (c : Int) (w : World) :
    Calls Tryd.prog 53 #[.string s, .int .u8 c] w fun e w' => e = .returned (.int .i64 (Lib.indexByte s.data.toList c.toNat.toUInt8)) ∧ w = w' := by
  go_enter Tryd.func53, Tryd.ntmps53
  go_wp2
  rw [run_callFunc_extern Tryd.func60 (by kernel_rfl) (by kernel_rfl) (by kernel_rfl) (e := Extern.BytealgIndexByte.indexByte) (by kernel_rfl), Lib.run_indexByteString]
  simp only [Result.andThen]
  rw [Oper.upon_value]
  go_wp2
  go_ret
  exact ⟨rfl, rfl⟩
set_option maxHeartbeats 2000000 in
set_option maxRecDepth 100000 in
theorem index47_any (s : ByteArray) (w : World) :
    Calls Tryd.prog 46 #[.string s, .string ⟨#[47]⟩] w fun e w' => e = .returned (.int .i64 (Lib.indexByte s.data.toList 47)) ∧ w = w' := by
  have HI := Lib.hid (fun W => iByteQ_any s 47 W)
  rw [show (47 : Int).toNat.toUInt8 = 47 from rfl] at HI
  by_cases h : s = ⟨#[47]⟩
  · subst h
    go_enter Tryd.func46, Tryd.ntmps46
    go_wp2_with (go_at_call 53; refine (HI.out _).mono ?_; rintro e w1 ⟨rfl, rfl⟩)
    go_ret
    exact ⟨rfl, rfl⟩
  · have hne : (([47] : List UInt8) == s.toList) = false := by
      rw [beq_eq_false_iff_ne]
      intro e
      apply h
      have e2 : s.data.toList = [47] := by rw [← ByteArray.toList_eq]; exact e.symm
      obtain ⟨⟨l⟩⟩ := s
      simp at e2
      rw [e2]
    clear h
    generalize Lib.indexByte s.data.toList 47 = x at *
    go_enter Tryd.func46, Tryd.ntmps46
    go_wp2_with (go_at_call 53; refine (HI.out _).mono ?_; rintro e w1 ⟨rfl, rfl⟩)
    go_ret
    exact ⟨rfl, rfl⟩
set_option maxHeartbeats 2000000 in
theorem cut47_no (s : ByteArray) (h : Lib.indexByte s.data.toList 47 = -1) (w : World) :
    Calls Tryd.prog 34 #[.string s, .string ⟨#[47]⟩] w fun e w' => e = .returned (.tuple #[.string s, .string ⟨#[]⟩, .bool false]) ∧ Below w.heap.size w w' := by
  have HI := Lib.hid (fun W => index47_any s W)
  rw [h] at HI
  clear h
  have HC : Hid (∀ W, Calls Tryd.prog 41 #[.string s, .string ⟨#[47]⟩] W fun e w' => e = .returned (.tuple #[.string s, .string ⟨#[]⟩, .bool false]) ∧ Below W.heap.size W w') := Lib.hid (fun W => by
    go_enter Tryd.func41, Tryd.ntmps41
    go_wp2_with (go_at_call 46; refine (HI.out _).mono ?_; rintro e w1 ⟨rfl, rfl⟩)
    go_ret3
    exact ⟨rfl, Below.refl _ _⟩)
  go_enter Tryd.func34, Tryd.ntmps34
  go_wp2_with (go_at_call 41; refine (HC.out _).mono ?_; rintro e w1 ⟨rfl, hb1⟩; have HB := Lib.hid hb1; clear hb1)
  go_ret3
  exact ⟨rfl, HB.out⟩
set_option maxHeartbeats 2000000 in
theorem cut47_yes (s : ByteArray) (i : Nat) (h : Lib.indexByte s.data.toList 47 = i) (hi : i < s.size) (hs : s.size ≤ 100000) (w : World) :
    Calls Tryd.prog 34 #[.string s, .string ⟨#[47]⟩] w fun e w' => e = .returned (.tuple #[.string (s.extract 0 i), .string (s.extract (i + 1) s.size), .bool true]) ∧ Below w.heap.size w w' := by
  have HI := Lib.hid (fun W => index47_any s W)
  rw [h] at HI
  clear h
  have HC : Hid (∀ W, Calls Tryd.prog 41 #[.string s, .string ⟨#[47]⟩] W fun e w' => e = .returned (.tuple #[.string (s.extract 0 i), .string (s.extract (i + 1) s.size), .bool true]) ∧ Below W.heap.size W w') := Lib.hid (fun W => by
    have c1 : (0 : Int) ≤ ↑i := by omega
    have c2 : (↑i : Int) ≤ ↑s.size := by omega
    have c3 : (0 : Int) ≤ ↑i + 1 := by omega
    have c4 : (↑i + 1 : Int) ≤ ↑s.size := by omega
    go_enter Tryd.func41, Tryd.ntmps41
    go_wp2_with (go_at_call 46; refine (HI.out _).mono ?_; rintro e w1 ⟨rfl, rfl⟩)
    go_quiet (fail)
    go_wp2
    go_ret3
    exact ⟨rfl, below_drewN (Below.refl _ _) _⟩)
  go_enter Tryd.func34, Tryd.ntmps34
  go_wp2_with (go_at_call 41; refine (HC.out _).mono ?_; rintro e w1 ⟨rfl, hb1⟩; have HB := Lib.hid hb1; clear hb1)
  go_ret3
  exact ⟨rfl, HB.out⟩

/-- A list cut at its first slash. -/
def cutQ : List Nat → List Nat × List Nat × Bool
  | [] => ([], [], false)
  | c :: l => if c = 47 then ([], l, true) else (c :: (cutQ l).1, (cutQ l).2.1, (cutQ l).2.2)
theorem natQ_ext (s : ByteArray) (a b : Nat) : natL (s.extract a b).data.toList = ((natL s.data.toList).take b).drop a := by
  rw [ByteArray.data_extract, Array.toList_extract, List.extract_eq_take_drop]
  unfold natL
  rw [List.map_take, List.map_drop, List.drop_take]
theorem cutQ_no (l : List Nat) (h : ∀ c ∈ l, c ≠ 47) : cutQ l = (l, [], false) := by
  induction l with
  | nil => rfl
  | cons c l ih =>
    have hc := h c (by simp)
    unfold cutQ
    rw [if_neg hc, ih (fun x hx => h x (by simp [hx]))]
theorem cutQ_yes (l : List Nat) (i : Nat) (r : List Nat) (he : l = l.take i ++ 47 :: r) (h : ∀ c ∈ l.take i, c ≠ 47) : cutQ l = (l.take i, r, true) := by
  generalize l.take i = p at *
  subst he
  induction p with
  | nil => simp [cutQ]
  | cons c p ih =>
    have hc := h c (by simp)
    show cutQ (c :: (p ++ 47 :: r)) = _
    unfold cutQ
    rw [if_neg hc, ih (fun x hx => h x (by simp [hx]))]
/-- What strings.Cut answers. -/
theorem cutQS_any (s : ByteArray) (hs : s.size ≤ 100000) (w : World) :
    Calls Tryd.prog 34 #[.string s, .string ⟨#[47]⟩] w fun e w' => ∃ a b : ByteArray, e = .returned (.tuple #[.string a, .string b, .bool (cutQ (natL s.data.toList)).2.2]) ∧ natL a.data.toList = (cutQ (natL s.data.toList)).1 ∧ natL b.data.toList = (cutQ (natL s.data.toList)).2.1 ∧ a.size + b.size ≤ s.size ∧ Below w.heap.size w w' := by
  rcases idx47 s.data.toList with ⟨h1, h2⟩ | ⟨i, h1, h2, h3, h4⟩
  · refine (cut47_no s h1 w).mono fun e w' ⟨he, hb⟩ => ?_
    have hc : cutQ (natL s.data.toList) = (natL s.data.toList, [], false) := cutQ_no _ (fun c hc => by
      unfold natL at hc
      obtain ⟨u, hu, rfl⟩ := List.mem_map.1 hc
      intro h
      exact h2 u hu (UInt8.toNat_inj.1 h))
    rw [hc]
    exact ⟨s, ⟨#[]⟩, he, rfl, rfl, Nat.le_refl _, hb⟩
  · have hi : i < s.size := by rw [← natB_len, natL_len]; exact h2
    refine (cut47_yes s i h1 hi hs w).mono fun e w' ⟨he, hb⟩ => ?_
    have hn : natL s.data.toList = (natL s.data.toList).take i ++ 47 :: (natL s.data.toList).drop (i + 1) := by
      conv => lhs; rw [h3]
      unfold natL
      rw [List.map_append, List.map_cons, List.map_take, List.map_drop]
      rfl
    have hc := cutQ_yes (natL s.data.toList) i _ hn (fun c hc => by
      unfold natL at hc
      rw [← List.map_take] at hc
      obtain ⟨u, hu, rfl⟩ := List.mem_map.1 hc
      intro h
      exact h4 u hu (UInt8.toNat_inj.1 h))
    rw [hc]
    refine ⟨_, _, he, ?_, ?_, ?_, hb⟩
    · rw [natQ_ext, List.drop_zero]
    · rw [natQ_ext, List.take_of_length_le (by rw [natB_len]; exact Nat.le_refl _)]
    · rw [ByteArray.size_extract, ByteArray.size_extract]; omega
/-- What one definition says: a key's place, and its text. -/
def defP (o : Option Nat) (found : Bool) (h : List Nat) : Option (Nat × List Nat) := match o with
  | some key => if found = true ∧ 0 ≤ plc key then (fhL h).map fun b => ((plc key).toNat, b) else none
  | none => none
def DefQ (o : Option (Nat × List Nat)) (e : Ending) : Prop := match o with
  | some (k, b) => e = .returned (.tuple #[.int .i64 (k : Nat), .string (bstr b), .int .i64 0])
  | none => ∃ (x : Int) (s : ByteArray), e = .returned (.tuple #[.int .i64 x, .string s, .int .i64 3])
theorem plc_le (key : Int) : -1 ≤ plc key ∧ plc key ≤ 14 := by
  have H : ∀ f k : Nat, k + f ≤ 15 → -1 ≤ plcK key f k ∧ plcK key f k ≤ 14 := by
    intro f
    induction f with
    | zero => intro k _; exact ⟨Int.le_refl _, by show (-1 : Int) ≤ 14; omega⟩
    | succ f ih =>
      intro k hk
      unfold plcK
      split
      · omega
      · exact ih (k + 1) (by omega)
  exact H 15 0 (by omega)
theorem plc_0 : plc 0 = -1 := by decide
theorem plc_255 : plc 255 = -1 := by decide
set_option maxRecDepth 100000 in
set_option maxHeartbeats 4000000 in
theorem definition_any (s : ByteArray) (hs : s.size ≤ 100000) (w : World) (he : ErrS w) (hr : ErrR w) (hn : Nums w) :
    Calls Tryd.prog 30 #[.string s] w fun e w' => (∃ d : ByteArray, natL d.data.toList = (cutQ (natL s.data.toList)).1 ∧ DefQ (defP (puK d) (cutQ (natL s.data.toList)).2.2 (cutQ (natL s.data.toList)).2.1) e) ∧ Below w.heap.size w w' := by
  have HC := Lib.hid (fun W => cutQS_any s hs W)
  generalize hcl : cutQ (natL s.data.toList) = c at *
  obtain ⟨ca, cb, cf⟩ := c
  have HE := Lib.hid he; have HR := Lib.hid hr; have HN := Lib.hid hn
  clear he hr hn hcl
  simp only at *
  --#1
  go_enter Tryd.func30, Tryd.ntmps30
  go_wp2_with fail
  refine (HC.out _).mono ?_
  rintro e w2 ⟨a, b, rfl, ha, hbb, hab, hb2⟩
  have HB2 := Lib.hid hb2
  have HP := Lib.hid (pu10_any a (by omega) w2 (HE.out.next HB2.out) (HR.out.next HB2.out))
  have HA := Lib.hid ha
  clear hb2 ha HC
  go_wp2_with fail
  refine HP.out.mono ?_
  rintro e w3 ⟨hpt, hb3⟩
  have HB3 := Lib.hid (HB2.out.trans (hb3.mono HB2.out.size))
  clear hb3 HB2 HP
  have HN3 := Lib.hid (HN.out.next HB3.out)
  have HF := Lib.hid (fun W h => fromHex_any b (by omega) W h)
  rw [hbb] at HF
  generalize hpk : puK a = o at *
  --#2
  rcases o with _ | key
  · obtain ⟨v, te, pe, hv, rfl⟩ := hpt
    have HPl := Lib.hid (place_any (v : Int) w3 HN3.out)
    have hw0 : IntKind.i64.wrap (v : Int) = (v : Int) := IntWalk.i64_in _ (by omega)
    have hp1 : plc (v : Int) = -1 := by rcases hv with rfl | rfl; exact plc_0; exact plc_255
    rw [hp1] at HPl
    clear hp1 hv HF
    go_wp2_with fail
    refine HPl.out.mono ?_
    rintro e w4 ⟨rfl, rfl⟩
    rcases cf with _ | _
    all_goals
      go_wp2_with fail
      go_ret3
      exact ⟨⟨a, HA.out, by rw [hpk]; exact ⟨0, ⟨#[]⟩, rfl⟩⟩, HB3.out⟩
  · obtain ⟨hk, rfl⟩ := hpt
    have HPl := Lib.hid (place_any (key : Int) w3 HN3.out)
    have hw0 : IntKind.i64.wrap (key : Int) = (key : Int) := IntWalk.i64_in _ (by omega)
    have hple := plc_le (key : Int)
    have hD : ∀ f h, defP (some key) f h = if f = true ∧ 0 ≤ plc key then (fhL h).map fun b => ((plc key).toNat, b) else none := fun f h => rfl
    replace hD := Lib.hid hD
    generalize plc (key : Int) = pl at *
    --#3
    go_wp2_with fail
    refine HPl.out.mono ?_
    rintro e w4 ⟨rfl, rfl⟩
    rcases cf with _ | _
    · go_wp2_with fail
      go_ret3
      exact ⟨⟨a, HA.out, by rw [hpk, hD.out, if_neg (by simp)]; exact ⟨0, ⟨#[]⟩, rfl⟩⟩, HB3.out⟩
    · by_cases hneg : pl < 0
      · go_wp2_with fail
        go_ret3
        exact ⟨⟨a, HA.out, by rw [hpk, hD.out, if_neg (by omega)]; exact ⟨0, ⟨#[]⟩, rfl⟩⟩, HB3.out⟩
      · have hpn : 0 ≤ pl := by omega
        obtain ⟨kk, rfl⟩ : ∃ kk : Nat, pl = kk := ⟨pl.toNat, by omega⟩
        have hQ : defP (some key) true cb = (fhL cb).map fun b => (kk, b) := by rw [hD.out, if_pos ⟨rfl, hpn⟩]; rfl
        replace hQ := Lib.hid hQ
        clear hD hneg
        generalize fhL cb = q at *
        rcases q with _ | t
        · have HFn : Hid (∀ W, ErrS W → Calls Tryd.prog 36 #[.string b] W fun e w' => e = .returned (.tuple #[.string ⟨#[]⟩, .int .i64 3]) ∧ Below W.heap.size W w') := Lib.hid (fun W h => HF.out W h)
          clear HF
          go_wp2_with fail
          refine (HFn.out _ (HE.out.next HB3.out)).mono ?_
          rintro e w5 ⟨rfl, hb5⟩
          have HB5 := Lib.hid (HB3.out.trans (hb5.mono HB3.out.size))
          clear hb5
          go_wp2_with fail
          go_ret3
          exact ⟨⟨a, HA.out, by rw [hpk, hQ.out]; exact ⟨_, ⟨#[]⟩, rfl⟩⟩, HB5.out⟩
        · have HFn : Hid (∀ W, ErrS W → Calls Tryd.prog 36 #[.string b] W fun e w' => e = .returned (.tuple #[.string (bstr t), .int .i64 0]) ∧ Below W.heap.size W w') := Lib.hid (fun W h => HF.out W h)
          clear HF
          go_wp2_with fail
          refine (HFn.out _ (HE.out.next HB3.out)).mono ?_
          rintro e w5 ⟨rfl, hb5⟩
          have HB5 := Lib.hid (HB3.out.trans (hb5.mono HB3.out.size))
          clear hb5
          go_wp2_with fail
          go_ret3
          exact ⟨⟨a, HA.out, by rw [hpk, hQ.out]; rfl⟩, HB5.out⟩
end Go.Proofs.YtlhabooeeohniaaDoor

/-
  The numbers of the keys; the place of one.
  A decimal number of a key, read by the library.
  A text cut at its first slash; a key's definition.
-/
import Derived.Test.YtigaaidacndeiaaGreatDoorHexE
import Derived.Lib.Bytealg
import Derived.Lib.Strings
import Derived.Laws.Externs
import Derived.Laws.Strings3
namespace Go.Proofs.YtigaaidacndeiaaGreatDoor

open Go Go.RowKit

def nthU : Nat → Int
  | 0 => 17 | 1 => 18 | 2 => 19 | 3 => 20 | 4 => 21 | 5 => 23 | 6 => 24 | 7 => 25 | 8 => 26 | 9 => 28 | 10 => 29 | 11 => 31 | 12 => 32 | 13 => 33 | 14 => 34 | _ => 0
def numCells : List Value := (List.range 15).map fun k => .int .i64 (nthU k)
def numV : Value := .agg numCells.toArray
/-- The world holds the keys' numbers. -/
def Nums (w : World) : Prop := 1 < w.heap.size ∧ ∀ j v, numCells[j]? = some v → w.cell? ⟨1, j, none⟩ = some v
theorem Nums.next {w w' : World} (h : Nums w) (hb : Below w.heap.size w w') : Nums w' :=
  ⟨Nat.lt_of_lt_of_le h.1 hb.size, fun j v hj => (hb.cell (p := ⟨1, j, none⟩) h.1).trans (h.2 j v hj)⟩
theorem info_nums : (Tryz.prog.info? 73).map (·.size) = some numCells.length := by kernel_rfl
theorem load_nums {w : World} (h : Nums w) : (loadVar 73 ⟨1, 0, none⟩).run Tryz.prog w = .ok numV w := by
  have hl : (loadCells ⟨1, 0, none⟩ numCells.length).run Tryz.prog w = .ok numCells.toArray w :=
    run_loadCells_list w ⟨1, 0, none⟩ numCells (fun j v hv => by
      have hadd : (⟨1, 0, none⟩ : Addr).add j = ⟨1, j, none⟩ := by unfold Addr.add; split <;> simp_all
      rw [hadd]; exact h.2 j v hv)
  obtain ⟨i, hq, hs⟩ := Option.map_eq_some_iff.1 info_nums
  have hagg : (isAgg 73).run Tryz.prog w = .ok true w := by kernel_rfl
  simp only [loadVar, Sem.run_bind, hagg, Result.andThen_ok, sizeOf, typeInfo]
  simp [hq, hs, hl, numV]
theorem wpList_load_nums {ops : Array Oper} {rest : List Oper} {o : Oper} {a : Act} {w : World} {Q : Exit → Act → World → Prop} (h : Nums w) (hgd : o.guard = none) (x : Operand) (ho : o.op = .load 73 x)
    (hx : a.eval x = .pointer (some ⟨1, 0, none⟩)) (hk : wpList Tryz.prog ops Q rest (a.put o.dst numV) w) : wpList Tryz.prog ops Q (o :: rest) a w :=
  wpList_plain hgd fun _ hK => by
    unfold Oper.wp execOp
    simp only [ho, hx, Instr.loadAt, Instr.sureAddr, Sem.run_bind, Sem.run_pure, Result.andThen_ok, load_nums h]
    exact hK _ _ hk
theorem idx_nums : ∀ (k : Nat), k < 15 → ∀ (w : World), (Instr.index 73 numV (.int .i64 k)).run Tryz.prog w = .ok (.int .i64 (nthU k)) w
  | 0, _, _ => by kernel_rfl | 1, _, _ => by kernel_rfl | 2, _, _ => by kernel_rfl | 3, _, _ => by kernel_rfl | 4, _, _ => by kernel_rfl
  | 5, _, _ => by kernel_rfl | 6, _, _ => by kernel_rfl | 7, _, _ => by kernel_rfl | 8, _, _ => by kernel_rfl | 9, _, _ => by kernel_rfl
  | 10, _, _ => by kernel_rfl | 11, _, _ => by kernel_rfl | 12, _, _ => by kernel_rfl | 13, _, _ => by kernel_rfl | 14, _, _ => by kernel_rfl
/-- The place of a key; -1: it is none. -/
def plcK (key : Int) : Nat → Nat → Int
  | 0, _ => -1
  | f + 1, k => if nthU k = key then (k : Int) else plcK key f (k + 1)
def plc (key : Int) : Int := plcK key 15 0
set_option maxHeartbeats 2000000 in
theorem place_any (key : Int) (w : World) (hn : Nums w) : Calls Tryz.prog 116 #[.int .i64 key] w fun e w' => e = .returned (.int .i64 (plc key)) ∧ w = w' := by
  obtain ⟨V, hV⟩ : ∃ V, V = plc key := ⟨_, rfl⟩
  rw [← hV]
  replace hV := Lib.hid hV
  go_enter Tryz.func116, Tryz.ntmps116
  go_upto_region 2 with (with_reducible refine wpList_load_nums hn rfl _ rfl rfl ?_)
  go_loopw [6] (fun i wr => ∃ k : Nat, k ≤ 15 ∧ i = .int .i64 k ∧ Hid (V = plcK key (15 - k) k) ∧ w = wr) (fun i _ => 15 - (intOf i).toNat)
  case atStart => exact ⟨0, by omega, rfl, hV, rfl⟩
  case round =>
    obtain ⟨k, hk, rfl, hI, rfl⟩ := hrel
    by_cases hlt : k < 15
    · have hi := idx_nums k hlt
      have hs : V = if nthU k = key then (k : Int) else plcK key (15 - (k + 1)) (k + 1) := by
        rw [hI.out, show 15 - k = (15 - (k + 1)) + 1 from by omega]
        rfl
      have hwk : IntKind.i64.wrap ((k : Int) + 1) = (k : Int) + 1 := IntWalk.i64_in _ (by omega)
      clear hI hV
      by_cases he : nthU k = key
      · rw [if_pos he] at hs
        have HS := Lib.hid hs
        subst he
        clear hs
        generalize nthU k = z at *
        go_wp2_with fail
        go_ret
        exact ⟨by rw [HS.out]; rfl, by first | rfl | trivial⟩
      · rw [if_neg he] at hs
        have HS := Lib.hid hs
        have heb : (nthU k == key) = false := by simpa using he
        clear hs
        generalize nthU k = z at *
        go_wp2_with fail
        go_roundw
        case rel => exact ⟨k + 1, by omega, by go_num, HS, by first | rfl | trivial⟩
        case measure => simp [intOf]; omega
    · obtain rfl : k = 15 := by omega
      have HS : Hid (V = -1) := Lib.hid hI.out
      clear hI hV
      go_wp2_with fail
      go_ret
      exact ⟨by rw [HS.out]; rfl, by first | rfl | trivial⟩
end Go.Proofs.YtigaaidacndeiaaGreatDoor

namespace Go.Proofs.YtigaaidacndeiaaGreatDoor

open Go Go.RowKit



/-- What a decimal text is; none: no number, or one beyond a byte. -/
def puK (t : ByteArray) : Option Nat := if t.size = 0 then none else match Lib.parseUintM 255 0 t.data.toList with
  | .ok n => some n
  | _ => none
theorem pu_le : ∀ (l : List UInt8) (acc n : Nat), acc ≤ 255 → Lib.parseUintM 255 acc l = .ok n → n ≤ 255
  | [], acc, n, ha, h => by
    unfold Lib.parseUintM at h
    injection h with h
    omega
  | c :: l, acc, n, ha, h => by
    unfold Lib.parseUintM at h
    split at h
    · split at h
      · cases h
      · split at h
        · cases h
        · rename_i _ hle
          exact pu_le l _ n (by omega) h
    · cases h
def PuT (o : Option Nat) (e : Ending) : Prop := match o with
  | some n => n ≤ 255 ∧ e = .returned (.tuple #[.int .u64 (n : Nat), .nilIface])
  | none => ∃ (v : Nat) (te : TypeId) (pe : Value), (v = 0 ∨ v = 255) ∧ e = .returned (.tuple #[.int .u64 (v : Nat), .iface te pe])


end Go.Proofs.YtigaaidacndeiaaGreatDoor

namespace Go.Proofs.YtigaaidacndeiaaGreatDoor

open Go Go.RowKit

theorem idx47 (l : List UInt8) : (Lib.indexByte l 47 = -1 ∧ ∀ b ∈ l, b ≠ 47) ∨ ∃ i : Nat, Lib.indexByte l 47 = i ∧ i < l.length ∧ l = l.take i ++ 47 :: l.drop (i + 1) ∧ ∀ b ∈ l.take i, b ≠ 47 := by
  induction l with
  | nil => exact .inl ⟨rfl, by simp⟩
  | cons c l ih =>
    by_cases hc : c = 47
    · subst hc
      exact .inr ⟨0, by simp [Lib.indexByte], by simp, by simp, by simp⟩
    · have hb : (c == 47) = false := by simpa using hc
      rcases ih with ⟨h1, h2⟩ | ⟨i, h1, h2, h3, h4⟩
      · refine .inl ⟨by simp [Lib.indexByte, hb, h1], fun b hm => ?_⟩
        rcases List.mem_cons.1 hm with rfl | hm
        · exact hc
        · exact h2 b hm
      · refine .inr ⟨i + 1, ?_, by simp; omega, ?_, fun b hm => ?_⟩
        · have : ((i : Int) == -1) = false := by rw [beq_eq_false_iff_ne]; omega
          simp [Lib.indexByte, hb, h1, this]
        · rw [List.take_succ_cons, List.drop_succ_cons, List.cons_append, ← h3]
        · rw [List.take_succ_cons] at hm
          rcases List.mem_cons.1 hm with rfl | hm
          · exact hc
          · exact h4 b hm
set_option maxHeartbeats 1000000 in
set_option maxRecDepth 100000 in
theorem iByteQ_any (s : ByteArray) (c : Int) (w : World) :
    Calls Tryz.prog 128 #[.string s, .int .u8 c] w fun e w' => e = .returned (.int .i64 (Lib.indexByte s.data.toList c.toNat.toUInt8)) ∧ w = w' := by
  go_enter Tryz.func128, Tryz.ntmps128
  go_wp2
  rw [run_callFunc_extern Tryz.func134 (by kernel_rfl) (by kernel_rfl) (by kernel_rfl) (e := Extern.BytealgIndexByte.indexByte) (by kernel_rfl), Lib.run_indexByteString]
  simp only [Result.andThen]
  rw [Oper.upon_value]
  go_wp2
  go_ret
  exact ⟨rfl, rfl⟩



/-- A list cut at its first slash. -/
def cutQ : List Nat → List Nat × List Nat × Bool
  | [] => ([], [], false)
  | c :: l => if c = 47 then ([], l, true) else (c :: (cutQ l).1, (cutQ l).2.1, (cutQ l).2.2)
theorem natQ_ext (s : ByteArray) (a b : Nat) : natL (s.extract a b).data.toList = ((natL s.data.toList).take b).drop a := by
  rw [ByteArray.data_extract, Array.toList_extract, List.extract_eq_take_drop]
  unfold natL
  rw [List.map_take, List.map_drop, List.drop_take]
theorem cutQ_no (l : List Nat) (h : ∀ c ∈ l, c ≠ 47) : cutQ l = (l, [], false) := by
  induction l with
  | nil => rfl
  | cons c l ih =>
    have hc := h c (by simp)
    unfold cutQ
    rw [if_neg hc, ih (fun x hx => h x (by simp [hx]))]
theorem cutQ_yes (l : List Nat) (i : Nat) (r : List Nat) (he : l = l.take i ++ 47 :: r) (h : ∀ c ∈ l.take i, c ≠ 47) : cutQ l = (l.take i, r, true) := by
  generalize l.take i = p at *
  subst he
  induction p with
  | nil => simp [cutQ]
  | cons c p ih =>
    have hc := h c (by simp)
    show cutQ (c :: (p ++ 47 :: r)) = _
    unfold cutQ
    rw [if_neg hc, ih (fun x hx => h x (by simp [hx]))]

/-- What one definition says: a key's place, and its text. -/
def defP (o : Option Nat) (found : Bool) (h : List Nat) : Option (Nat × List Nat) := match o with
  | some key => if found = true ∧ 0 ≤ plc key then (fhL h).map fun b => ((plc key).toNat, b) else none
  | none => none
def DefQ (o : Option (Nat × List Nat)) (e : Ending) : Prop := match o with
  | some (k, b) => e = .returned (.tuple #[.int .i64 (k : Nat), .string (bstr b), .int .i64 0])
  | none => ∃ (x : Int) (s : ByteArray), e = .returned (.tuple #[.int .i64 x, .string s, .int .i64 3])
theorem plc_le (key : Int) : -1 ≤ plc key ∧ plc key ≤ 14 := by
  have H : ∀ f k : Nat, k + f ≤ 15 → -1 ≤ plcK key f k ∧ plcK key f k ≤ 14 := by
    intro f
    induction f with
    | zero => intro k _; exact ⟨Int.le_refl _, by show (-1 : Int) ≤ 14; omega⟩
    | succ f ih =>
      intro k hk
      unfold plcK
      split
      · omega
      · exact ih (k + 1) (by omega)
  exact H 15 0 (by omega)
theorem plc_0 : plc 0 = -1 := by decide
theorem plc_255 : plc 255 = -1 := by decide

end Go.Proofs.YtigaaidacndeiaaGreatDoor

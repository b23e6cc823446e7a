/-
  Cores as twenty-nine cells, kept whole; bits, signs and flags.
-/
import Derived.Test.YtfnamfkjbkhgeaaGreatDoorCurF
import Derived.Test.YtfnamfkjbkhgeaaGreatDoorCuts
import Derived.Test.YtfnamfkjbkhgeaaGreatDoorParP
import Derived.Laws.Tables
import Derived.Deep.WholeRow
import Derived.Laws.StructEq
import Derived.ChangeKeysEq
namespace Go.Proofs.YtfnamfkjbkhgeaaGreatDoor

open Go Go.RowKit

/-- What can be told of a terminal. -/
structure Co where
  r : Int
  c : Int
  wp : Bool
  K : CK
  f : Fr
  m : Nat
  lv : Int
  eg : Bool
  st : Bool
  su : Int
  bl : Bool
  pg : Int
  ps : Int
/-- Its cells: the modes are of one kind in the program, of another one in the document. -/
def coC (k : IntKind) (x : Co) : Array Value := #[.int .i64 x.r, .int .i64 x.c, .int .u8 x.K.rd, .bool x.K.kp, .bool x.wp, .bool x.K.og, .int .i64 x.K.a, .int .i64 x.K.b, .int .i64 x.K.c, .int .i64 x.K.d, .int .i64 x.K.l, .int .i64 x.K.r, .int .i64 x.K.s, .int .i64 x.f.pt, .int .i64 x.f.pl, .int .i64 x.f.pb, .int .i64 x.f.pr, .int .i64 x.f.mt, .int .i64 x.f.ml, .int .i64 x.f.mb, .int .i64 x.f.mr, .int k x.m, .int .i64 x.lv, .bool x.eg, .bool x.st, .int .i64 x.su, .bool x.bl, .int .i64 x.pg, .int .i64 x.ps]
def coV (k : IntKind) (x : Co) : Value := .agg (coC k x)
abbrev zO (k : IntKind) : Array Value := #[.int .i64 0, .int .i64 0, .int .u8 0, .bool false, .bool false, .bool false, .int .i64 0, .int .i64 0, .int .i64 0, .int .i64 0, .int .i64 0, .int .i64 0, .int .i64 0, .int .i64 0, .int .i64 0, .int .i64 0, .int .i64 0, .int .i64 0, .int .i64 0, .int .i64 0, .int .i64 0, .int k 0, .int .i64 0, .bool false, .bool false, .int .i64 0, .bool false, .int .i64 0, .int .i64 0]
theorem coS (k : IntKind) (x : Co) : (coC k x).size = 29 := rfl
theorem co_one (k : IntKind) (x : Co) : (coC k x).all (·.oneCell') = true := by kernel_rfl
theorem info_co : (Tryz.prog.info? 45).map (·.size) = some 29 := by kernel_rfl
theorem info_cr : (Tryz.prog.info? 33).map (·.size) = some 29 := by kernel_rfl
theorem under_co : Tryz.prog.underlying 45 = some (.struct (Tryz.prog.fieldsOf 45)) := by kernel_rfl
theorem under_cr : Tryz.prog.underlying 33 = some (.struct (Tryz.prog.fieldsOf 33)) := by kernel_rfl
theorem Bs.row {w W : World} {l : List (Nat × TypeId × Array Value)} {b : Nat} {T : TypeId} {cs : Array Value} (h : Bs w ((b, T, cs) :: l) W) (cs' : Array Value) : Bs w ((b, T, cs') :: l) (W.setRow b cs') :=
  h.repl ⟨rfl, rfl, rfl, by simp, setRow_heap W b _ _ _ _ h.b0, fun k hk => setRow_other W b k _ hk⟩ (below_setRow (Below.refl _ _) (Nat.le_refl _) cs')
theorem row_repl {W : World} {b : Nat} {T : TypeId} {cs : Array Value} (h : Blk W b T cs) (cs' : Array Value) : Repl W (W.setRow b cs') b T cs' :=
  ⟨rfl, rfl, rfl, by simp, setRow_heap W b _ _ _ _ h, fun k hk => setRow_other W b k _ hk⟩
theorem exec_store_row {P : Program} {o : Oper} {a : Act} (T : TypeId) (x y : Operand) (ho : o.op = .store T x y) {g : Nat} {cs old : Array Value} {U : TypeId} {w : World} (hx : a.eval x = .pointer (some ⟨g, 0, none⟩)) (hy : a.eval y = .agg cs)
    (hg : Blk w g U old) (hi : (P.info? T).map (·.size) = some cs.size) (hs : old.size = cs.size) (h1 : cs.all (·.oneCell') = true) : (execOp a.eval o).run P w = .ok .skip (w.setRow g cs) := by
  unfold execOp
  simp only [ho, hx, hy, Instr.storeAt, Instr.sureAddr, Sem.run_bind, Sem.run_pure, Result.andThen_ok, run_storeVar_row w g U T old cs hg hi hs h1]
theorem exec_load_row {P : Program} {o : Oper} {a : Act} (T : TypeId) (x : Operand) (ho : o.op = .load T x) {g : Nat} {cs : Array Value} {U : TypeId} {w : World} {d : TypeDesc} (hx : a.eval x = .pointer (some ⟨g, 0, none⟩))
    (hg : Blk w g U cs) (hu : P.underlying T = some d) (hd : (match d with | .struct _ | .array _ _ => true | _ => false) = true) (hi : (P.info? T).map (·.size) = some cs.size) : (execOp a.eval o).run P w = .ok (.value (.agg cs)) w := by
  unfold execOp
  simp only [ho, hx, Instr.loadAt, Instr.sureAddr, Sem.run_bind, Sem.run_pure, Result.andThen_ok, run_loadVar_row w g U T cs (0, 0) d hg hu hd hi]
theorem bit_any (b : Bool) (w : World) : Calls Tryz.prog 28 #[.bool b] w fun e w' => e = .returned (.int .i64 (b.toNat : Int)) ∧ w = w' := by
  cases b
  all_goals
    go_enter Tryz.func28, Tryz.ntmps28
    go_wp2_with fail
    go_ret
    exact ⟨rfl, rfl⟩
theorem one_any (b : Bool) (w : World) : Calls Tryz.prog 31 #[.bool b] w fun e w' => e = .returned (.int .i64 (b.toNat : Int)) ∧ w = w' := by
  cases b
  all_goals
    go_enter Tryz.func31, Tryz.ntmps31
    go_wp2_with fail
    go_ret
    exact ⟨rfl, rfl⟩
/-- A byte of a text. -/
def sgnB (n : Nat) : ByteArray := ⟨#[UInt8.ofNat (64 + n)]⟩
theorem sign_any (n : Nat) (hn : n ≤ 63) (w : World) : Calls Tryz.prog 27 #[.int .i64 n] w fun e w' => e = .returned (.string (sgnB n)) ∧ Below w.heap.size w w' := by
  obtain ⟨B, hB⟩ : ∃ B, UInt8.ofNat (64 + n) = B := ⟨_, rfl⟩
  have hcv := conv_new w (64 + (n : Int)) B (by rw [← hB]; congr 1)
  unfold sgnB
  rw [hB]
  clear hB
  go_enter Tryz.func27, Tryz.ntmps27
  go_wp2_with fail
  go_ret
  exact ⟨rfl, (Below.refl _ _).alloc (Nat.le_refl _) _⟩
end Go.Proofs.YtfnamfkjbkhgeaaGreatDoor

/-
  A parser in memory: one box of cells, whose last 4096 are the bytes that it holds.
-/
import Derived.Test.YtpiliicphoacfaaDoorParD
import Derived.Test.YtpiliicphoacfaaDoorTokI
namespace Go.Proofs.YtpiliicphoacfaaDoor

open Go Go.RowKit

/-- A parser, as its parts. -/
structure Ps where
  pl : Int
  kd : Int
  cd : Nat
  mr : Nat
  it : ByteArray
  fs : List Int
  ds : List Nat
  vo : Bool
def ps0 : Ps := ⟨0, 0, 0, 0, ⟨#[]⟩, [], [], false⟩
def Ps.acc (s : Ps) : List Value := (padF s.fs).map (Value.int .i64) ++ [.int .i64 ((min s.fs.length 31 : Nat) : Int)]
def Ps.beg (s : Ps) : List Value := .int .i64 s.pl :: .int .i64 s.kd :: .int .u8 (s.cd : Int) :: .int .u8 (s.mr : Int) :: .slice none 0 0 :: .string s.it :: .slice none 0 0 :: (s.acc ++ [.int .i64 (s.ds.length : Int), .bool s.vo])
def Ps.dat (s : Ps) : List Value := s.ds.map (fun n : Nat => Value.int .u8 (n : Int)) ++ List.replicate (4096 - s.ds.length) (.int .u8 0)
def Ps.cells (s : Ps) : List Value := s.beg ++ s.dat
structure Ps.ok (s : Ps) : Prop where
  fs : InF s.fs
  ds : s.ds.length ≤ 4096
  it : s.it.size ≤ 3
theorem ps0_ok : ps0.ok := ⟨(by intro n hn; cases hn), by simp [ps0], by decide⟩
theorem acc_len (s : Ps) : s.acc.length = 31 := by unfold Ps.acc; simp [padF_len]
theorem beg_len (s : Ps) : s.beg.length = 40 := by unfold Ps.beg; simp [acc_len]
theorem dat_len (s : Ps) (h : s.ds.length ≤ 4096) : s.dat.length = 4096 := by unfold Ps.dat; simp; omega
theorem cells_len (s : Ps) (h : s.ds.length ≤ 4096) : s.cells.length = 4136 := by unfold Ps.cells; rw [List.length_append, beg_len, dat_len s h]
/-- Where a parser lies. -/
structure PsB (w : World) (g : Nat) (s : Ps) : Prop where
  blk : Blk w g 41 s.cells.toArray
  ok : s.ok
theorem PsB.lt {w : World} {g : Nat} {s : Ps} (h : PsB w g s) : g < w.heap.size := h.blk.lt
theorem PsB.next {w w' : World} {g : Nat} {s : Ps} (h : PsB w g s) (hb : Below w.heap.size w w') : PsB w' g s := ⟨h.blk.next hb, h.ok⟩
theorem PsB.far {w w' : World} {g : Nat} {s : Ps} (h : PsB w g s) {B : Nat} (hb : Below B w w') (hg : g < B) : PsB w' g s := ⟨(hb.block g hg).trans h.blk, h.ok⟩
theorem PsB.at_ {w : World} {g : Nat} {s : Ps} (h : PsB w g s) (k : Nat) (v : Value) (hv : s.cells[k]? = some v) : w.cell? ⟨g, k, none⟩ = some v := by
  rw [h.blk.cell k, List.getElem?_toArray]; exact hv
theorem beg_at (s : Ps) (k : Nat) (hk : k < 40) : s.cells[k]? = s.beg[k]? := by
  unfold Ps.cells; rw [List.getElem?_append_left (by rw [beg_len]; exact hk)]
theorem cell_acc (s : Ps) (k : Nat) (hk : k < 31) : s.cells[7 + k]? = s.acc[k]? := by
  rw [beg_at s _ (by omega), Nat.add_comm]
  show (s.acc ++ _)[k]? = _
  rw [List.getElem?_append_left (by rw [acc_len]; exact hk)]
theorem cell_fs (s : Ps) (k : Nat) (hk : k < 30) : s.cells[7 + k]? = (padF s.fs)[k]?.map (Value.int .i64) := by
  rw [cell_acc s k (by omega)]
  unfold Ps.acc
  rw [List.getElem?_append_left (by simp [padF_len, hk]), List.getElem?_map]
theorem cell_begun (s : Ps) : s.cells[37]? = some (.int .i64 ((min s.fs.length 31 : Nat) : Int)) := by
  rw [show 37 = 7 + 30 from rfl, cell_acc s 30 (by omega)]
  unfold Ps.acc
  rw [List.getElem?_append_right (by simp [padF_len])]
  simp [padF_len]
theorem cell_held (s : Ps) : s.cells[38]? = some (.int .i64 (s.ds.length : Int)) := by
  rw [beg_at s _ (by omega)]
  show (s.acc ++ _)[31]? = _
  rw [List.getElem?_append_right (by rw [acc_len]; omega), acc_len]; rfl
theorem cell_void (s : Ps) : s.cells[39]? = some (.bool s.vo) := by
  rw [beg_at s _ (by omega)]
  show (s.acc ++ _)[32]? = _
  rw [List.getElem?_append_right (by rw [acc_len]; omega), acc_len]; rfl
theorem cell_ds (s : Ps) (k : Nat) (hk : k < s.ds.length) : s.cells[40 + k]? = some (.int .u8 (s.ds[k] : Int)) := by
  unfold Ps.cells Ps.dat
  rw [List.getElem?_append_right (by rw [beg_len]; omega), beg_len, Nat.add_sub_cancel_left, List.getElem?_append_left (by simpa using hk)]
  simp [hk]
/-! What a store makes of it. -/
theorem PsB.put {w : World} {g : Nat} {s t : Ps} (h : PsB w g s) (k : Nat) (v : Value) (e : s.cells.set k v = t.cells) (ht : t.ok) : PsB (w.setCell ⟨g, k, none⟩ v) g t := by
  refine ⟨?_, ht⟩
  have := Blk.set_ h.blk k v
  rw [List.setIfInBounds_toArray, e] at this
  exact this
theorem set_beg (s : Ps) (k : Nat) (v : Value) (hk : k < 40) : s.cells.set k v = s.beg.set k v ++ s.dat := by
  unfold Ps.cells; rw [List.set_append_left _ _ (by rw [beg_len]; exact hk)]
theorem set_pl (s : Ps) (n : Int) : s.cells.set 0 (.int .i64 n) = ({s with pl := n} : Ps).cells := rfl
theorem set_kd (s : Ps) (n : Int) : s.cells.set 1 (.int .i64 n) = ({s with kd := n} : Ps).cells := rfl
theorem set_cd (s : Ps) (n : Nat) : s.cells.set 2 (.int .u8 (n : Int)) = ({s with cd := n} : Ps).cells := rfl
theorem set_mr (s : Ps) (n : Nat) : s.cells.set 3 (.int .u8 (n : Int)) = ({s with mr := n} : Ps).cells := rfl
theorem set_it (s : Ps) (u : ByteArray) : s.cells.set 5 (.string u) = ({s with it := u} : Ps).cells := rfl
theorem set_vo (s : Ps) (b : Bool) : s.cells.set 39 (.bool b) = ({s with vo := b} : Ps).cells := by
  rw [set_beg s _ _ (by omega)]
  unfold Ps.cells Ps.beg Ps.dat
  simp only [List.set_cons_succ]
  rw [List.set_append_right _ _ (by rw [acc_len]; omega), acc_len]
  rfl
theorem set_acc (s : Ps) (k : Nat) (hk : k < 31) (v : Value) : s.cells.set (7 + k) v = .int .i64 s.pl :: .int .i64 s.kd :: .int .u8 (s.cd : Int) :: .int .u8 (s.mr : Int) :: .slice none 0 0 :: .string s.it :: .slice none 0 0 :: (s.acc.set k v ++ [.int .i64 (s.ds.length : Int), .bool s.vo]) ++ s.dat := by
  rw [set_beg s _ _ (by omega)]
  unfold Ps.beg
  rw [Nat.add_comm]
  simp only [List.set_cons_succ]
  rw [List.set_append_left _ _ (by rw [acc_len]; exact hk)]
end Go.Proofs.YtpiliicphoacfaaDoor

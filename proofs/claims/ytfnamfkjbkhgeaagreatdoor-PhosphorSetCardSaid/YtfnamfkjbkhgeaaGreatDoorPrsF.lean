/-
  A parser in memory: one box of cells, whose last 4096 are the bytes that it holds.
  The numbers that a parser collects: a digit, a semicolon, any byte; their list.
  A parser's small calls: its numbers, what forgets, what holds a byte.
  A parser's small calls: what forgets, what begins, what holds a byte.
  A parser's small calls: what begins, what holds a byte, an Inter more; the small questions.
  A parser's small calls: what holds a byte, an Inter more.
-/
import Derived.Test.YtfnamfkjbkhgeaaGreatDoorParG
import Derived.Test.YtfnamfkjbkhgeaaGreatDoorTokI
import Derived.Deep.MidRow
import Derived.Lib.SliceRun
import Derived.Laws.Concat
namespace Go.Proofs.YtfnamfkjbkhgeaaGreatDoor

open Go Go.RowKit

/-- A parser, as its parts. -/
structure Ps where
  pl : Int
  kd : Int
  cd : Nat
  mr : Nat
  it : ByteArray
  fs : List Int
  ds : List Nat
  vo : Bool
def ps0 : Ps := ⟨0, 0, 0, 0, ⟨#[]⟩, [], [], false⟩
def Ps.acc (s : Ps) : List Value := (padF s.fs).map (Value.int .i64) ++ [.int .i64 ((min s.fs.length 31 : Nat) : Int)]
def Ps.beg (s : Ps) : List Value := .int .i64 s.pl :: .int .i64 s.kd :: .int .u8 (s.cd : Int) :: .int .u8 (s.mr : Int) :: .slice none 0 0 :: .string s.it :: .slice none 0 0 :: (s.acc ++ [.int .i64 (s.ds.length : Int), .bool s.vo])
def Ps.dat (s : Ps) : List Value := s.ds.map (fun n : Nat => Value.int .u8 (n : Int)) ++ List.replicate (4096 - s.ds.length) (.int .u8 0)
def Ps.cells (s : Ps) : List Value := s.beg ++ s.dat
structure Ps.ok (s : Ps) : Prop where
  fs : InF s.fs
  ds : s.ds.length ≤ 4096
  it : s.it.size ≤ 3
theorem ps0_ok : ps0.ok := ⟨(by intro n hn; cases hn), by simp [ps0], by decide⟩
theorem acc_len (s : Ps) : s.acc.length = 31 := by unfold Ps.acc; simp [padF_len]
theorem beg_len (s : Ps) : s.beg.length = 40 := by unfold Ps.beg; simp [acc_len]
theorem dat_len (s : Ps) (h : s.ds.length ≤ 4096) : s.dat.length = 4096 := by unfold Ps.dat; simp; omega
theorem cells_len (s : Ps) (h : s.ds.length ≤ 4096) : s.cells.length = 4136 := by unfold Ps.cells; rw [List.length_append, beg_len, dat_len s h]
/-- Where a parser lies. -/
structure PsB (w : World) (g : Nat) (s : Ps) : Prop where
  blk : Blk w g 121 s.cells.toArray
  ok : s.ok
theorem PsB.lt {w : World} {g : Nat} {s : Ps} (h : PsB w g s) : g < w.heap.size := h.blk.lt
theorem PsB.next {w w' : World} {g : Nat} {s : Ps} (h : PsB w g s) (hb : Below w.heap.size w w') : PsB w' g s := ⟨h.blk.next hb, h.ok⟩
theorem PsB.far {w w' : World} {g : Nat} {s : Ps} (h : PsB w g s) {B : Nat} (hb : Below B w w') (hg : g < B) : PsB w' g s := ⟨(hb.block g hg).trans h.blk, h.ok⟩
theorem PsB.at_ {w : World} {g : Nat} {s : Ps} (h : PsB w g s) (k : Nat) (v : Value) (hv : s.cells[k]? = some v) : w.cell? ⟨g, k, none⟩ = some v := by
  rw [h.blk.cell k, List.getElem?_toArray]; exact hv
theorem beg_at (s : Ps) (k : Nat) (hk : k < 40) : s.cells[k]? = s.beg[k]? := by
  unfold Ps.cells; rw [List.getElem?_append_left (by rw [beg_len]; exact hk)]
theorem cell_acc (s : Ps) (k : Nat) (hk : k < 31) : s.cells[7 + k]? = s.acc[k]? := by
  rw [beg_at s _ (by omega), Nat.add_comm]
  show (s.acc ++ _)[k]? = _
  rw [List.getElem?_append_left (by rw [acc_len]; exact hk)]
theorem cell_fs (s : Ps) (k : Nat) (hk : k < 30) : s.cells[7 + k]? = (padF s.fs)[k]?.map (Value.int .i64) := by
  rw [cell_acc s k (by omega)]
  unfold Ps.acc
  rw [List.getElem?_append_left (by simp [padF_len, hk]), List.getElem?_map]
theorem cell_begun (s : Ps) : s.cells[37]? = some (.int .i64 ((min s.fs.length 31 : Nat) : Int)) := by
  rw [show 37 = 7 + 30 from rfl, cell_acc s 30 (by omega)]
  unfold Ps.acc
  rw [List.getElem?_append_right (by simp [padF_len])]
  simp [padF_len]
theorem cell_held (s : Ps) : s.cells[38]? = some (.int .i64 (s.ds.length : Int)) := by
  rw [beg_at s _ (by omega)]
  show (s.acc ++ _)[31]? = _
  rw [List.getElem?_append_right (by rw [acc_len]; omega), acc_len]; rfl
theorem cell_void (s : Ps) : s.cells[39]? = some (.bool s.vo) := by
  rw [beg_at s _ (by omega)]
  show (s.acc ++ _)[32]? = _
  rw [List.getElem?_append_right (by rw [acc_len]; omega), acc_len]; rfl
theorem cell_ds (s : Ps) (k : Nat) (hk : k < s.ds.length) : s.cells[40 + k]? = some (.int .u8 (s.ds[k] : Int)) := by
  unfold Ps.cells Ps.dat
  rw [List.getElem?_append_right (by rw [beg_len]; omega), beg_len, Nat.add_sub_cancel_left, List.getElem?_append_left (by simpa using hk)]
  simp [hk]
/-! What a store makes of it. -/
theorem PsB.put {w : World} {g : Nat} {s t : Ps} (h : PsB w g s) (k : Nat) (v : Value) (e : s.cells.set k v = t.cells) (ht : t.ok) : PsB (w.setCell ⟨g, k, none⟩ v) g t := by
  refine ⟨?_, ht⟩
  have := Blk.set_ h.blk k v
  rw [List.setIfInBounds_toArray, e] at this
  exact this
theorem set_beg (s : Ps) (k : Nat) (v : Value) (hk : k < 40) : s.cells.set k v = s.beg.set k v ++ s.dat := by
  unfold Ps.cells; rw [List.set_append_left _ _ (by rw [beg_len]; exact hk)]
theorem set_pl (s : Ps) (n : Int) : s.cells.set 0 (.int .i64 n) = ({s with pl := n} : Ps).cells := rfl
theorem set_kd (s : Ps) (n : Int) : s.cells.set 1 (.int .i64 n) = ({s with kd := n} : Ps).cells := rfl
theorem set_cd (s : Ps) (n : Nat) : s.cells.set 2 (.int .u8 (n : Int)) = ({s with cd := n} : Ps).cells := rfl
theorem set_mr (s : Ps) (n : Nat) : s.cells.set 3 (.int .u8 (n : Int)) = ({s with mr := n} : Ps).cells := rfl
theorem set_it (s : Ps) (u : ByteArray) : s.cells.set 5 (.string u) = ({s with it := u} : Ps).cells := rfl
theorem set_vo (s : Ps) (b : Bool) : s.cells.set 39 (.bool b) = ({s with vo := b} : Ps).cells := by
  rw [set_beg s _ _ (by omega)]
  unfold Ps.cells Ps.beg Ps.dat
  simp only [List.set_cons_succ]
  rw [List.set_append_right _ _ (by rw [acc_len]; omega), acc_len]
  rfl
theorem set_acc (s : Ps) (k : Nat) (hk : k < 31) (v : Value) : s.cells.set (7 + k) v = .int .i64 s.pl :: .int .i64 s.kd :: .int .u8 (s.cd : Int) :: .int .u8 (s.mr : Int) :: .slice none 0 0 :: .string s.it :: .slice none 0 0 :: (s.acc.set k v ++ [.int .i64 (s.ds.length : Int), .bool s.vo]) ++ s.dat := by
  rw [set_beg s _ _ (by omega)]
  unfold Ps.beg
  rw [Nat.add_comm]
  simp only [List.set_cons_succ]
  rw [List.set_append_left _ _ (by rw [acc_len]; exact hk)]
end Go.Proofs.YtfnamfkjbkhgeaaGreatDoor

namespace Go.Proofs.YtfnamfkjbkhgeaaGreatDoor

open Go Go.RowKit

def Ps.cellsA (s : Ps) (L : List Int) : List Value := .int .i64 s.pl :: .int .i64 s.kd :: .int .u8 (s.cd : Int) :: .int .u8 (s.mr : Int) :: .slice none 0 0 :: .string s.it :: .slice none 0 0 :: (L.map (Value.int .i64) ++ (.int .i64 (s.ds.length : Int) :: .bool s.vo :: s.dat))
def accF (fs : List Int) : List Int := padF fs ++ [((min fs.length 31 : Nat) : Int)]
theorem accF_len (fs : List Int) : (accF fs).length = 31 := by unfold accF; simp [padF_len]
theorem cellsA_eq (s : Ps) : s.cells = s.cellsA (accF s.fs) := by unfold Ps.cells Ps.beg Ps.acc Ps.cellsA accF; simp
theorem cellsA_set (s : Ps) (L : List Int) (k : Nat) (n : Int) (hk : k < L.length) : (s.cellsA L).set (7 + k) (.int .i64 n) = s.cellsA (L.set k n) := by
  unfold Ps.cellsA
  rw [Nat.add_comm]
  simp only [List.set_cons_succ]
  rw [List.set_append_left _ _ (by simpa using hk), List.map_set]
theorem blkA_set {w : World} {g : Nat} {s : Ps} {L : List Int} (h : Blk w g 121 (s.cellsA L).toArray) (k : Nat) (n : Int) (hk : k < L.length) : Blk (w.setCell ⟨g, 7 + k, none⟩ (.int .i64 n)) g 121 (s.cellsA (L.set k n)).toArray := by
  have := Blk.set_ h (7 + k) (.int .i64 n)
  rw [List.setIfInBounds_toArray, cellsA_set s L k n hk] at this
  exact this
theorem PsB.toA {w : World} {g : Nat} {s : Ps} (h : PsB w g s) : Blk w g 121 (s.cellsA (accF s.fs)).toArray := by rw [← cellsA_eq]; exact h.blk
theorem PsB.ofA {w : World} {g : Nat} {s : Ps} {fs : List Int} (h : Blk w g 121 (s.cellsA (accF fs)).toArray) (ho : s.ok) (hf : InF fs) : PsB w g {s with fs := fs} := by
  refine ⟨?_, hf, ho.ds, ho.it⟩
  rw [cellsA_eq]
  exact h
theorem acc_digitF (gs : List Int) (x d : Int) (h : gs.length < 30) : ((accF (gs ++ [x])).set 30 ((gs.length + 1 : Nat) : Int)).set gs.length d = accF (gs ++ [d]) := acc_digit gs x d h
theorem digF_range {fs : List Int} {d : Int} (h : InF fs) (hd : 0 ≤ d) : InF (digF fs d) := by
  intro n hn
  unfold digF at hn
  split at hn
  · obtain rfl : n = _ := by simpa using hn
    exact sat1_range (Int.le_refl 0) hd
  · rename_i hne
    rcases List.mem_append.1 hn with hn | hn
    · exact h n (List.dropLast_subset _ hn)
    · obtain rfl : n = _ := by simpa using hn
      refine sat1_range ?_ hd
      rw [List.getLast?_eq_some_getLast hne]
      exact (h _ (List.getLast_mem hne)).1
theorem semF_range {fs : List Int} (h : InF fs) : InF (semF fs) := by
  intro n hn
  unfold semF at hn
  split at hn
  · simp at hn; omega
  · rcases List.mem_append.1 hn with hn | hn
    · exact h n hn
    · simp at hn; omega
set_option maxRecDepth 100000 in
set_option maxHeartbeats 4000000 in
theorem digitP_any (g : Nat) (s : Ps) (d : Int) (hd : 0 ≤ d ∧ d ≤ 9) (w : World) (h : PsB w g s) :
    Calls Tryz.prog 119 #[.pointer (some ⟨g, 7, none⟩), .int .i64 d] w fun e w' => e = .returned (.tuple #[]) ∧ PsB w' g {s with fs := digF s.fs d} ∧ w.grownBy w' (some g) := by
  have hrg := digF_range (d := d) h.ok.fs hd.1
  obtain ⟨d0, d1⟩ := hd
  have hb := h.at_ 37 _ (cell_begun s)
  have f37 := Blk.frozen h.blk 37
  have hok := h.ok
  rcases List.eq_nil_or_concat s.fs with hfs | ⟨gs, x, hfs⟩
  · have c0 : w.cell? ⟨g, 7, none⟩ = some (.int .i64 0) := h.at_ 7 _ (by rw [show 7 = 7 + 0 from rfl, cell_fs s 0 (by omega), hfs]; rfl)
    have f0 := Blk.frozen h.blk 7
    have H := Lib.hid h.toA
    have HO := Lib.hid hok
    have HG := Lib.hid hrg
    rw [hfs] at hb H HG
    have e2 : Hid (s.fs = []) := Lib.hid hfs
    change w.cell? ⟨g, 37, none⟩ = some (.int .i64 0) at hb
    clear h hfs hok hrg
    have m01 : max (0 : Int) 1 = 1 := rfl
    have mn1 : min d 65535 = d := by omega
    go_enter Tryz.func119, Tryz.ntmps119
    go_wp2
    go_region
    all_goals
      go_end0
      refine ⟨rfl, ?_, grown_drew (grown_trans grown_set grown_set)⟩
      have h1 := blkA_set (blkA_set H.out 30 1 (by decide)) 0 d (by decide)
      have e : sat1 0 d = d := by unfold sat1; omega
      rw [show ((accF []).set 30 1).set 0 d = accF [d] from acc_first_digit d] at h1
      rw [e2.out]
      have e3 : digF [] d = [d] := by simp [digF, e]
      rw [e3] at HG ⊢
      exact PsB.ofA h1 HO.out HG.out
  · rw [List.concat_eq_append] at hfs
    obtain ⟨x0, x1⟩ := hok.fs x (by rw [hfs]; simp)
    by_cases hk : gs.length < 30
    · have e31 : ((min s.fs.length 31 : Nat) : Int) = (gs.length : Int) + 1 := by rw [hfs]; simp; omega
      rw [e31] at hb
      have hx : (padF s.fs)[gs.length]? = some x := by
        rw [hfs]
        unfold padF
        rw [List.take_of_length_le (by simp; omega), List.getElem?_append_left (by simp), List.getElem?_append_right (by omega)]
        simp
      have c0 : w.cell? ⟨g, 7 + gs.length, none⟩ = some (.int .i64 x) := h.at_ _ _ (by rw [cell_fs s _ hk, hx]; rfl)
      have f0 := Blk.frozen h.blk (7 + gs.length)
      have H := Lib.hid h.toA
      have HO := Lib.hid hok
      have HE : Hid (((accF (gs ++ [x])).set 30 ((gs.length : Int) + 1)).set gs.length (sat1 x d) = accF (gs ++ [sat1 x d])) := Lib.hid (acc_digitF gs x (sat1 x d) hk)
      have HD : Hid (digF s.fs d = gs ++ [sat1 x d]) := Lib.hid (by rw [hfs]; simp [digF])
      have HG := Lib.hid hrg
      have HF := Lib.hid hfs
      have hne : 7 + gs.length ≠ 37 := by omega
      have hne2 : gs.length ≠ 30 := by omega
      have mx1 : max ((gs.length : Int) + 1) 1 = (gs.length : Int) + 1 := by omega
      clear h hx e31 hok hrg hfs
      go_enter Tryz.func119, Tryz.ntmps119
      go_wp2
      go_region
      all_goals
        go_end0
        refine ⟨rfl, ?_, grown_drew (grown_trans grown_set grown_set)⟩
        have h0 := H.out
        rw [HF.out] at h0
        have h1 := blkA_set (blkA_set h0 30 ((gs.length : Int) + 1) (by rw [accF_len]; omega)) gs.length (sat1 x d) (by rw [List.length_set, accF_len]; omega)
        rw [HE.out] at h1
        rw [HD.out] at HG ⊢
        exact PsB.ofA h1 HO.out HG.out
    · have e31 : ((min s.fs.length 31 : Nat) : Int) = 31 := by rw [hfs]; simp; omega
      have H := Lib.hid h.toA
      have HO := Lib.hid hok
      have HE := Lib.hid (acc_late gs x (sat1 x d) (by omega))
      have HD : Hid (digF s.fs d = gs ++ [sat1 x d]) := Lib.hid (by rw [hfs]; simp [digF])
      have HG := Lib.hid hrg
      have HF := Lib.hid hfs
      rw [e31] at hb
      have H31 := Lib.hid e31
      clear h e31 hok hrg hfs
      go_enter Tryz.func119, Tryz.ntmps119
      go_wp2
      go_end0
      refine ⟨rfl, ?_, grown_set⟩
      have h1 := blkA_set H.out 30 31 (by rw [accF_len]; omega)
      have h2 : (accF s.fs).set 30 31 = accF s.fs := by
        unfold accF
        rw [H31.out, List.set_append_right _ _ (by rw [padF_len]; omega), padF_len]
        rfl
      rw [h2] at h1
      rw [HD.out] at HG ⊢
      rw [HF.out, show accF (gs ++ [x]) = accF (gs ++ [sat1 x d]) from HE.out] at h1
      exact PsB.ofA h1 HO.out HG.out
set_option maxRecDepth 100000 in
set_option maxHeartbeats 4000000 in
theorem semicolonP_any (g : Nat) (s : Ps) (w : World) (h : PsB w g s) :
    Calls Tryz.prog 120 #[.pointer (some ⟨g, 7, none⟩)] w fun e w' => e = .returned (.tuple #[]) ∧ PsB w' g {s with fs := semF s.fs} ∧ w.grownBy w' (some g) := by
  have HG := Lib.hid (semF_range h.ok.fs)
  have hb := h.at_ 37 _ (cell_begun s)
  have f37 := Blk.frozen h.blk 37
  have H := Lib.hid h.toA
  have HO := Lib.hid h.ok
  clear h
  by_cases hf : s.fs = []
  · rw [hf] at hb H HG
    have e2 : Hid (s.fs = []) := Lib.hid hf
    clear hf
    change w.cell? ⟨g, 37, none⟩ = some (.int .i64 0) at hb
    go_enter Tryz.func120, Tryz.ntmps120
    go_wp2
    go_end0
    refine ⟨rfl, ?_, grown_set⟩
    have h1 := blkA_set H.out 30 2 (by decide)
    rw [show (accF []).set 30 2 = accF [0, 0] from acc_semi_nil] at h1
    rw [e2.out]
    exact PsB.ofA h1 HO.out HG.out
  · have hl : 0 < s.fs.length := List.length_pos_iff.2 hf
    have HS : Hid (semF s.fs = s.fs ++ [0]) := Lib.hid (by simp [semF, hf])
    have HE := Lib.hid (acc_semi s.fs)
    clear hf
    obtain ⟨m, hm, hm1, hm2⟩ : ∃ m : Nat, m = min s.fs.length 31 ∧ 1 ≤ m ∧ m ≤ 31 := ⟨_, rfl, by omega, by omega⟩
    rw [← hm] at hb
    have HM := Lib.hid hm
    clear hm hl
    have mx1 : max (m : Int) 1 = (m : Int) := by omega
    by_cases h31 : m = 31
    · subst h31
      go_enter Tryz.func120, Tryz.ntmps120
      go_wp2
      go_end0
      refine ⟨rfl, ?_, grown_set⟩
      have h1 := blkA_set H.out 30 ((min (s.fs.length + 1) 31 : Nat) : Int) (by rw [accF_len]; omega)
      rw [show (accF s.fs).set 30 ((min (s.fs.length + 1) 31 : Nat) : Int) = accF (s.fs ++ [0]) from HE.out, show ((min (s.fs.length + 1) 31 : Nat) : Int) = 31 from by have := HM.out; omega] at h1
      rw [HS.out] at HG ⊢
      exact PsB.ofA h1 HO.out HG.out
    · have hlt : m < 31 := by omega
      have mn1 : min ((m : Int) + 1) 31 = (m : Int) + 1 := by omega
      clear h31
      go_enter Tryz.func120, Tryz.ntmps120
      go_wp2
      go_end0
      refine ⟨rfl, ?_, grown_set⟩
      have h1 := blkA_set H.out 30 ((min (s.fs.length + 1) 31 : Nat) : Int) (by rw [accF_len]; omega)
      rw [show (accF s.fs).set 30 ((min (s.fs.length + 1) 31 : Nat) : Int) = accF (s.fs ++ [0]) from HE.out, show ((min (s.fs.length + 1) 31 : Nat) : Int) = (m : Int) + 1 from by have := HM.out; omega] at h1
      rw [HS.out] at HG ⊢
      exact PsB.ofA h1 HO.out HG.out
set_option maxRecDepth 100000 in
set_option maxHeartbeats 4000000 in
theorem byteP_yes (g : Nat) (s : Ps) (b : UInt8) (hb : okb b = true) (w : World) (h : PsB w g s) :
    Calls Tryz.prog 90 #[.pointer (some ⟨g, 7, none⟩), .int .u8 b.toNat] w fun e w' => e = .returned (.bool true) ∧ PsB w' g {s with fs := stepF s.fs b} ∧ w.grownBy w' (some g) := by
  by_cases h59 : b = 59
  · subst h59
    have HC := Lib.hid (semicolonP_any g s w h)
    clear h
    go_enter Tryz.func90, Tryz.ntmps90
    go_wp2_with (go_at_call 120; refine HC.out.mono ?_; rintro e w1 ⟨rfl, h1, h2⟩)
    go_ret
    exact ⟨rfl, h1, h2⟩
  · obtain ⟨b0, b1⟩ := okb_digit hb h59
    have HS := Lib.hid (stepF_eq s.fs b)
    rw [if_neg h59] at HS
    have HC := Lib.hid (digitP_any g s (dgt b) (by unfold dgt; omega) w h)
    have HD : Hid (dgt b = (b.toNat : Int) - 48) := Lib.hid rfl
    have e1 : IntKind.u8.wrap ((b.toNat : Int) - 48) = (b.toNat : Int) - 48 := by rw [IntKind.wrap_u8]; omega
    generalize dgt b = d at *
    generalize stepF s.fs b = fs2 at *
    clear h h59 hb
    generalize b.toNat = n at *
    go_enter Tryz.func90, Tryz.ntmps90
    go_wp2_with fail
    rw [← HD.out]
    refine HC.out.mono ?_
    rintro e w1 ⟨rfl, h1, h2⟩
    go_wp2
    go_ret
    exact ⟨rfl, by rw [HS.out]; exact h1, h2⟩
set_option maxHeartbeats 1000000 in
theorem byteP_no (g : Nat) (b : UInt8) (hb : okb b = false) (w : World) :
    Calls Tryz.prog 90 #[.pointer (some ⟨g, 7, none⟩), .int .u8 b.toNat] w fun e w' => e = .returned (.bool false) ∧ w = w' := by
  have h : b.toNat ≠ 59 ∧ (b.toNat < 48 ∨ 57 < b.toNat) := by
    have hlt := b.toNat_lt
    simp [okb, UInt8.le_iff_toNat_le] at hb
    refine ⟨fun e => hb.1 (UInt8.toNat_inj.1 e), ?_⟩
    have := hb.2
    omega
  generalize b.toNat = n at *
  obtain ⟨h1, h2⟩ := h
  have h59 : ((n : Int) == 59) = false := by simp; omega
  clear h1 hb
  rcases h2 with h2 | h2
  · have hd : decide ((n : Int) ≥ 48) = false := by simp; omega
    go_enter Tryz.func90, Tryz.ntmps90
    go_wp2_with fail
    go_ret
    exact ⟨rfl, rfl⟩
  · have hd : decide ((n : Int) ≤ 57) = false := by simp; omega
    go_enter Tryz.func90, Tryz.ntmps90
    go_wp2_with fail
    go_ret
    exact ⟨rfl, rfl⟩
end Go.Proofs.YtfnamfkjbkhgeaaGreatDoor

namespace Go.Proofs.YtfnamfkjbkhgeaaGreatDoor

open Go Go.RowKit

set_option maxRecDepth 100000 in
set_option maxHeartbeats 1000000 in
theorem listP_any (g : Nat) (s : Ps) (w : World) (h : PsB w g s) :
    Calls Tryz.prog 91 #[.pointer (some ⟨g, 7, none⟩)] w fun e w' => ∃ v, e = .returned v ∧ OInts w' w.heap.size v (s.fs.take 30) ∧ Below w.heap.size w w' := by
  have hb := h.at_ 37 _ (cell_begun s)
  have hlt := h.lt
  have hrow : ∀ j, j < 30 → w.cell? ⟨g, 7 + j, none⟩ = (padF s.fs)[j]?.map (Value.int .i64) := fun j hj => by
    rw [h.blk.cell (7 + j), List.getElem?_toArray]; exact cell_fs s j hj
  generalize s.fs = fs at *
  have HR := Lib.hid hrow
  clear h hrow
  obtain ⟨i0, hi0, hz0, hz1, hz2⟩ := info_parts info_int
  have HI := Lib.hid hi0; have HZ0 := Lib.hid hz0; have HZ1 := Lib.hid hz1; have HZ2 := Lib.hid hz2
  clear hi0 hz0 hz1 hz2
  obtain ⟨ns, hns⟩ : ∃ ns, ns = fs.take 30 := ⟨_, rfl⟩
  rw [← hns]
  obtain ⟨n, hn, hn30⟩ : ∃ n : Nat, n = ns.length ∧ n ≤ 30 := ⟨_, rfl, by rw [hns]; simp; omega⟩
  have HN := Lib.hid hn
  have HTake : Hid (∀ j v, (ns.map (Value.int .i64))[j]? = some v → j < 30 ∧ (padF fs)[j]?.map (Value.int .i64) = some v) := Lib.hid (fun j v hj => by
    rw [hns] at hj
    have hj' : j < (fs.take 30).length := by
      rcases Nat.lt_or_ge j (fs.take 30).length with h' | h'
      · exact h'
      · rw [List.getElem?_eq_none (by simpa using h')] at hj; cases hj
    refine ⟨by simp at hj'; omega, ?_⟩
    rw [← hj, List.getElem?_map]
    unfold padF
    rw [List.getElem?_append_left hj'])
  clear hn
  have hm : (∃ m : Nat, min fs.length 31 = m ∧ m ≤ 30 ∧ m = n) ∨ (min fs.length 31 = 31 ∧ n = 30) := by
    have := HN.out
    rw [hns] at this
    simp at this
    by_cases hl : fs.length ≤ 30
    · exact .inl ⟨_, rfl, by omega, by omega⟩
    · exact .inr (by omega)
  clear hns
  rcases hm with ⟨m, hm, hm30, rfl⟩ | ⟨hm, rfl⟩
  all_goals
    rw [hm] at hb
    clear hm
    have mn31 : min (31 : Int) 30 = 30 := rfl
    try (have mnm : min (m : Int) 30 = (m : Int) := by omega)
    go_enter Tryz.func91, Tryz.ntmps91
    go_wp2_with (first
      | (at_make; (first | refine wpList_make_full _ rfl _ _ 64 rfl w.heap.size 3 i0 (.int .i64 0) 1 Tryz.underlying64 HI.out HZ0.out HZ1.out _ _ _ _ m rfl rfl rfl rfl (by rw [HZ2.out]; omega) (by unfold maxLen; omega) (Nat.le_refl _) ?_ | refine wpList_make_full _ rfl _ _ 64 rfl w.heap.size 3 i0 (.int .i64 0) 1 Tryz.underlying64 HI.out HZ0.out HZ1.out _ _ _ _ 30 rfl rfl rfl rfl (by rw [HZ2.out]; omega) (by unfold maxLen; omega) (Nat.le_refl _) ?_); intro w1 hown hgr; have HOwn := Lib.hid hown; have HB1 := Lib.hid (below_grown_none hgr (Nat.le_refl _)); clear hown hgr)
      | (refine wpList_copy_splice (o := ⟨some 15, _, _, _, _, _⟩) rfl (.tmp 10) (.tmp 14) 64 64 rfl 3 Tryz.underlying64 (by kernel_rfl) _ _ _ _ _ _ rfl rfl w.heap.size 0 _ 3 (own_blkP HOwn.out) (ns.map (Value.int .i64)) (by rw [List.length_map, ← HN.out]; exact (Nat.min_eq_right (by omega)).symm) (fun _ => ⟨rfl, ⟨g, 7, none⟩, rfl, fun j v hv => by rw [Addr.add_mid, HB1.out.cell (p := ⟨g, 7 + j, none⟩) hlt, HR.out j (HTake.out j v hv).1]; exact (HTake.out j v hv).2⟩) (by rw [List.length_map, ← HN.out]; simp [madeCells]) (ints_one _) w.heap.size w HB1.out (Nat.le_refl _) ?_; intro w2 hblk2 hb2))
    go_ret
    have h2 := hblk2.out
    rw [splice_all _ _ (by rw [List.length_map, ← HN.out]; simp [madeCells])] at h2
    have h3 := blk_own h2 (Nat.le_refl _) (by rw [← HN.out]; unfold maxLen; omega)
    rw [← HN.out] at h3
    exact ⟨_, rfl, h3, hb2⟩
/-! Several cells in the midst of a box. -/
def setL (l : List Value) : Nat → List Value → List Value
  | _, [] => l
  | o, v :: r => setL (l.set o v) (o + 1) r
theorem setL_mid (ys' : List Value) : ∀ (xs ys zs : List Value), ys'.length = ys.length → setL (xs ++ (ys ++ zs)) xs.length ys' = xs ++ (ys' ++ zs) := by
  induction ys' with
  | nil => intro xs ys zs h; obtain rfl : ys = [] := List.eq_nil_of_length_eq_zero h.symm; rfl
  | cons v r ih =>
    intro xs ys zs h
    cases ys with
    | nil => simp at h
    | cons y t =>
      have e : (xs ++ (y :: t ++ zs)).set xs.length v = (xs ++ [v]) ++ (t ++ zs) := by
        rw [List.set_append_right _ _ (Nat.le_refl _)]; simp
      rw [setL, e, show xs.length + 1 = (xs ++ [v]).length from by simp, ih (xs ++ [v]) t zs (by simpa using h)]
      simp
theorem blk_setCells {g : Nat} {T : TypeId} (vs : List Value) : ∀ (o : Nat) (w : World) (l : List Value), Blk w g T l.toArray → Blk (w.setCells g o vs) g T (setL l o vs).toArray := by
  induction vs with
  | nil => intro o w l h; exact h
  | cons v r ih =>
    intro o w l h
    have := Blk.set_ h o v
    rw [List.setIfInBounds_toArray] at this
    exact ih (o + 1) _ _ this
theorem grown_setCells {g : Nat} (vs : List Value) : ∀ (o : Nat) (w : World), w.grownBy (w.setCells g o vs) (some g) := by
  induction vs with
  | nil => intro o w; exact ⟨rfl, rfl, rfl, Nat.le_refl _, fun k _ _ => rfl⟩
  | cons v r ih => intro o w; exact grown_trans grown_set (ih (o + 1) _)
theorem there_blk {w : World} {g : Nat} {T : TypeId} {cs : Array Value} (h : Blk w g T cs) (o n : Nat) (hn : o + n ≤ cs.size) : w.there g o n := fun j hj => ⟨by rw [h.cell]; simp; omega, h.frozen _⟩
theorem grown_refl (w : World) (r : Option Nat) : w.grownBy w r := ⟨rfl, rfl, rfl, Nat.le_refl _, fun _ _ _ => rfl⟩
theorem grown_below {w w' : World} {r : Option Nat} (h : Below w.heap.size w w') : w.grownBy w' r := ⟨h.os, h.tape, h.output, h.size, fun k hk _ => h.block k hk⟩
theorem PsB.grown {w w' : World} {g k : Nat} {s : Ps} (h : PsB w g s) (hg : w.grownBy w' (some k)) (hk : g ≠ k) : PsB w' g s := ⟨(hg.block g h.lt (fun e => hk (by simpa using e))).trans h.blk, h.ok⟩
end Go.Proofs.YtfnamfkjbkhgeaaGreatDoor

namespace Go.Proofs.YtfnamfkjbkhgeaaGreatDoor

open Go Go.RowKit

theorem u8Zero : ∀ W : World, (zeroValue 5).run Tryz.prog W = .ok (.int .u8 0) W := by
  obtain ⟨i, hi, hz, _⟩ := info_u8
  intro W
  simp [zeroValue, typeInfo, hi, hz]
theorem beg0 : ps0.beg = [.int .i64 0, .int .i64 0, .int .u8 0, .int .u8 0, .slice none 0 0, .string ⟨#[]⟩, .slice none 0 0, .int .i64 0, .int .i64 0, .int .i64 0, .int .i64 0, .int .i64 0, .int .i64 0, .int .i64 0, .int .i64 0, .int .i64 0, .int .i64 0, .int .i64 0, .int .i64 0, .int .i64 0, .int .i64 0, .int .i64 0, .int .i64 0, .int .i64 0, .int .i64 0, .int .i64 0, .int .i64 0, .int .i64 0, .int .i64 0, .int .i64 0, .int .i64 0, .int .i64 0, .int .i64 0, .int .i64 0, .int .i64 0, .int .i64 0, .int .i64 0, .int .i64 0, .int .i64 0, .bool false] := rfl
def bg0 : Array Value := #[.int .i64 0, .int .i64 0, .int .u8 0, .int .u8 0, .slice none 0 0, .string ⟨#[]⟩, .slice none 0 0, .int .i64 0, .int .i64 0, .int .i64 0, .int .i64 0, .int .i64 0, .int .i64 0, .int .i64 0, .int .i64 0, .int .i64 0, .int .i64 0, .int .i64 0, .int .i64 0, .int .i64 0, .int .i64 0, .int .i64 0, .int .i64 0, .int .i64 0, .int .i64 0, .int .i64 0, .int .i64 0, .int .i64 0, .int .i64 0, .int .i64 0, .int .i64 0, .int .i64 0, .int .i64 0, .int .i64 0, .int .i64 0, .int .i64 0, .int .i64 0, .int .i64 0, .int .i64 0, .bool false]
theorem bg0_eq : ps0.beg.toArray = bg0 := rfl
theorem bg0_one : bg0.all (·.oneCell') = true := by simp [bg0, Value.oneCell']
theorem dat0 : ps0.dat = List.replicate 4096 (Value.int .u8 0) := by unfold Ps.dat ps0; rfl
theorem cells_clear (s : Ps) (h : s.ds.length ≤ 4096) : setL s.cells 40 (List.replicate s.ds.length (.int .u8 0)) = s.beg ++ ps0.dat := by
  have := setL_mid (List.replicate s.ds.length (.int .u8 0)) s.beg (s.ds.map (fun n : Nat => Value.int .u8 (n : Int))) (List.replicate (4096 - s.ds.length) (.int .u8 0)) (by simp)
  rw [beg_len] at this
  unfold Ps.cells
  rw [show s.dat = s.ds.map (fun n : Nat => Value.int .u8 (n : Int)) ++ List.replicate (4096 - s.ds.length) (.int .u8 0) from rfl, this, dat0, List.replicate_append_replicate]
  rw [show s.ds.length + (4096 - s.ds.length) = 4096 from by omega]
theorem cells_zero (s : Ps) : setL (s.beg ++ ps0.dat) 0 ps0.beg = ps0.cells := by
  have := setL_mid ps0.beg [] s.beg ps0.dat (by rw [beg_len, beg_len])
  simpa [Ps.cells] using this
theorem bgSize : (Tryz.prog.info? 118).map (·.size) = some bg0.size := by kernel_rfl
set_option maxRecDepth 100000 in
set_option maxHeartbeats 4000000 in
theorem reset_any (g : Nat) (s : Ps) (w : World) (h : PsB w g s) :
    Calls Tryz.prog 122 #[.pointer (some ⟨g, 0, none⟩)] w fun e w' => e = .returned (.tuple #[]) ∧ PsB w' g ps0 ∧ w.grownBy w' (some g) := by
  have q38 := h.at_ 38 _ (cell_held s)
  have hn := h.ok.ds
  have HB := Lib.hid h.blk
  have HC := Lib.hid (cells_clear s hn)
  have HL := Lib.hid (cells_len s hn)
  generalize hn' : s.ds.length = n at *
  have hn0 : (0 : Int) ≤ (n : Int) := by omega
  have hn1 : ((n : Int) ≤ 4096) = True := eq_true (by omega)
  clear h hn'
  have f0 : ∀ j, w.frozen? ⟨g, j, none⟩ = false := fun j => HB.out.frozen j
  have hcl : (Builtin.clear_ #[63] 0 #[.slice (some ⟨g, 40, none⟩) n 4096]).run Tryz.prog w.drew = .ok (.tuple #[]) (w.drew.setCells g 40 (List.replicate n (.int .u8 0))) := by
    rcases Nat.eq_zero_or_pos n with rfl | hp
    · simp [Builtin.clear_, run_underlying Tryz.underlying63, World.setCells]
    · exact Lib.run_clear_slice (P := Tryz.prog) w.drew 63 5 0 (.int .u8 0) Tryz.underlying63 u8Zero rfl rfl g 40 n 4096 hp (fun j hj => by
        show (w.cell? _).isSome = true
        rw [HB.out.cell, List.getElem?_toArray]; simp; rw [HL.out]; omega) (fun j _ => f0 _)
  clear f0
  go_enter Tryz.func122, Tryz.ntmps122
  go_wp2
  go_region
  all_goals
    have H1 := Lib.hid (blk_setCells (List.replicate n (.int .u8 0)) 40 w.drew s.cells HB.out)
    have HG := Lib.hid (show w.grownBy (w.drew.setCells g 40 (List.replicate n (.int .u8 0))) (some g) from grown_trans (grown_drew (grown_refl w _)) (grown_setCells (List.replicate n (.int .u8 0)) 40 w.drew))
    generalize w.drew.setCells g 40 (List.replicate n (.int .u8 0)) = w1 at *
    clear hcl q38
    rw [HC.out] at H1
    have HT := Lib.hid (there_blk H1.out 0 40 (by rw [List.size_toArray, List.length_append, beg_len]; omega))
    go_wp2_with (refine wpList_store_mid rfl 118 _ _ rfl g 0 bg0 rfl rfl HT.out bgSize bg0_one ?_)
    go_end0
    have H2 := blk_setCells ps0.beg 0 w1 _ H1.out
    have e0 : bg0.toList = ps0.beg := rfl
    rw [cells_zero] at H2
    exact ⟨rfl, ⟨H2, ps0_ok⟩, grown_trans HG.out (grown_setCells _ _ _)⟩
end Go.Proofs.YtfnamfkjbkhgeaaGreatDoor

namespace Go.Proofs.YtfnamfkjbkhgeaaGreatDoor

open Go Go.RowKit

set_option maxHeartbeats 4000000 in
theorem goOn_any (g : Nat) (s : Ps) (k p : Int) (w : World) (h : PsB w g s) :
    Calls Tryz.prog 174 #[.pointer (some ⟨g, 0, none⟩), .int .i64 k, .int .i64 p] w fun e w' => e = .returned (.tuple #[]) ∧ PsB w' g {s with kd := k, pl := p} ∧ w.grownBy w' (some g) := by
  have q0 := h.at_ 0 _ rfl
  have q1 := h.at_ 1 _ rfl
  have f0 := h.blk.frozen 0
  have f1 := h.blk.frozen 1
  have H := Lib.hid h
  clear h
  go_enter Tryz.func174, Tryz.ntmps174
  go_wp2_with fail
  go_end0
  have h1 := H.out.put (t := {s with kd := k}) 1 (.int .i64 k) rfl ⟨H.out.ok.fs, H.out.ok.ds, H.out.ok.it⟩
  exact ⟨rfl, h1.put (t := {s with kd := k, pl := p}) 0 (.int .i64 p) rfl ⟨H.out.ok.fs, H.out.ok.ds, H.out.ok.it⟩, grown_trans grown_set grown_set⟩
def begP : Ps := {ps0 with kd := 3, pl := 1}
set_option maxHeartbeats 4000000 in
theorem begin_any (g : Nat) (s : Ps) (w : World) (h : PsB w g s) :
    Calls Tryz.prog 153 #[.pointer (some ⟨g, 0, none⟩)] w fun e w' => e = .returned (.tuple #[]) ∧ PsB w' g begP ∧ w.grownBy w' (some g) := by
  have H := Lib.hid h
  have HR := Lib.hid (fun W h => reset_any g s W h)
  have HG := Lib.hid (fun W h => goOn_any g ps0 3 1 W h)
  clear h
  go_enter Tryz.func153, Tryz.ntmps153
  go_wp2_with fail
  refine (HR.out _ H.out).mono ?_
  rintro e w1 ⟨rfl, h1, g1⟩
  have H1 := Lib.hid h1; have G1 := Lib.hid g1
  clear h1 g1 H HR
  go_wp2_with fail
  refine (HG.out _ H1.out).mono ?_
  rintro e w2 ⟨rfl, h2, g2⟩
  have H2 := Lib.hid h2; have G2 := Lib.hid (grown_trans G1.out g2)
  clear h2 g2 H1 G1 HG
  go_wp2_with fail
  go_end0
  exact ⟨rfl, H2.out, G2.out⟩
/-! What a byte is. -/
def pInter (c : Nat) : Bool := decide (32 ≤ c) && decide (c ≤ 47)
def pMark (c : Nat) : Bool := decide (60 ≤ c) && decide (c ≤ 63)
def pCode (c : Nat) : Bool := decide (64 ≤ c)
def pData (c : Nat) : Bool := (decide (8 ≤ c) && decide (c ≤ 13)) || decide (32 ≤ c)
theorem dI (a b : Nat) : decide ((a : Int) ≤ (b : Int)) = decide (a ≤ b) := by simp
set_option maxHeartbeats 1000000 in
theorem pInter_any (c : Nat) (w : World) : Calls Tryz.prog 175 #[.int .u8 (c : Int)] w fun e w' => e = .returned (.bool (pInter c)) ∧ w' = w := by
  unfold pInter
  have e1 : decide ((32 : Int) ≤ (c : Int)) = decide (32 ≤ c) := dI 32 c
  have e2 : decide ((c : Int) ≤ (47 : Int)) = decide (c ≤ 47) := dI c 47
  generalize decide (32 ≤ c) = b1 at *
  generalize decide (c ≤ 47) = b2 at *
  cases b1 <;> cases b2
  all_goals
    go_enter Tryz.func175, Tryz.ntmps175
    go_wp2_with fail
    go_ret
    exact ⟨rfl, rfl⟩
set_option maxHeartbeats 1000000 in
theorem pMark_any (c : Nat) (w : World) : Calls Tryz.prog 178 #[.int .u8 (c : Int)] w fun e w' => e = .returned (.bool (pMark c)) ∧ w' = w := by
  unfold pMark
  have e1 : decide ((60 : Int) ≤ (c : Int)) = decide (60 ≤ c) := dI 60 c
  have e2 : decide ((c : Int) ≤ (63 : Int)) = decide (c ≤ 63) := dI c 63
  generalize decide (60 ≤ c) = b1 at *
  generalize decide (c ≤ 63) = b2 at *
  cases b1 <;> cases b2
  all_goals
    go_enter Tryz.func178, Tryz.ntmps178
    go_wp2_with fail
    go_ret
    exact ⟨rfl, rfl⟩
set_option maxHeartbeats 1000000 in
theorem pCode_any (c : Nat) (w : World) : Calls Tryz.prog 179 #[.int .u8 (c : Int)] w fun e w' => e = .returned (.bool (pCode c)) ∧ w' = w := by
  unfold pCode
  have e1 : decide ((64 : Int) ≤ (c : Int)) = decide (64 ≤ c) := dI 64 c
  generalize decide (64 ≤ c) = b1 at *
  go_enter Tryz.func179, Tryz.ntmps179
  go_wp2_with fail
  go_ret
  exact ⟨by simp, rfl⟩
set_option maxHeartbeats 1000000 in
theorem pData_any (c : Nat) (w : World) : Calls Tryz.prog 181 #[.int .u8 (c : Int)] w fun e w' => e = .returned (.bool (pData c)) ∧ w' = w := by
  unfold pData
  have e1 : decide ((8 : Int) ≤ (c : Int)) = decide (8 ≤ c) := dI 8 c
  have e2 : decide ((c : Int) ≤ (13 : Int)) = decide (c ≤ 13) := dI c 13
  have e3 : decide ((32 : Int) ≤ (c : Int)) = decide (32 ≤ c) := dI 32 c
  generalize decide (8 ≤ c) = b1 at *
  generalize decide (c ≤ 13) = b2 at *
  generalize decide (32 ≤ c) = b3 at *
  cases b1 <;> cases b2 <;> cases b3
  all_goals
    go_enter Tryz.func181, Tryz.ntmps181
    go_wp2_with fail
    go_ret
    exact ⟨rfl, rfl⟩
end Go.Proofs.YtfnamfkjbkhgeaaGreatDoor

namespace Go.Proofs.YtfnamfkjbkhgeaaGreatDoor

open Go Go.RowKit

def holdP (s : Ps) (c : Nat) : Ps := if s.ds.length = 4096 then {s with vo := true} else {s with ds := s.ds ++ [c]}
theorem cells_hold (s : Ps) (c : Nat) (h : s.ds.length < 4096) : (s.cells.set (40 + s.ds.length) (.int .u8 (c : Int))).set 38 (.int .i64 ((s.ds.length : Int) + 1)) = ({s with ds := s.ds ++ [c]} : Ps).cells := by
  have e1 : s.cells.set (40 + s.ds.length) (.int .u8 (c : Int)) = s.beg ++ ({s with ds := s.ds ++ [c]} : Ps).dat := by
    unfold Ps.cells Ps.dat
    rw [List.set_append_right _ _ (by rw [beg_len]; omega), beg_len, Nat.add_sub_cancel_left, List.set_append_right _ _ (by simp)]
    rw [show 4096 - s.ds.length = (4096 - (s.ds.length + 1)) + 1 from by omega, List.replicate_succ]
    simp
  have e2 : s.beg.set 38 (.int .i64 ((s.ds.length : Int) + 1)) = ({s with ds := s.ds ++ [c]} : Ps).beg := by
    unfold Ps.beg Ps.acc
    simp only [List.set_cons_succ]
    rw [List.set_append_right _ _ (by simp [padF_len])]
    simp [padF_len]
  rw [e1, List.set_append_left _ _ (by rw [beg_len]; omega), e2]
  rfl
set_option maxRecDepth 100000 in
set_option maxHeartbeats 4000000 in
theorem hold_any (g : Nat) (s : Ps) (c : Nat) (w : World) (h : PsB w g s) :
    Calls Tryz.prog 182 #[.pointer (some ⟨g, 0, none⟩), .int .u8 (c : Int)] w fun e w' => e = .returned (.tuple #[]) ∧ PsB w' g (holdP s c) ∧ w.grownBy w' (some g) := by
  have q38 := h.at_ 38 _ (cell_held s)
  have f38 := h.blk.frozen 38
  have H := Lib.hid h
  have hn := h.ok.ds
  unfold holdP
  by_cases hz : s.ds.length = 4096
  · rw [if_pos hz]
    rw [hz] at q38
    have q39 := h.at_ 39 _ (cell_void s)
    have f39 := h.blk.frozen 39
    clear h hn hz
    change w.cell? ⟨g, 38, none⟩ = some (.int .i64 4096) at q38
    go_enter Tryz.func182, Tryz.ntmps182
    go_wp2_with fail
    exact bodyPost_ret (results_none rfl _ _ _) rfl ⟨rfl, H.out.put 39 (.bool true) (set_vo s true) ⟨H.out.ok.fs, H.out.ok.ds, H.out.ok.it⟩, grown_set⟩
  · rw [if_neg hz]
    have hlt : s.ds.length < 4096 := by omega
    have HC := Lib.hid (cells_hold s c hlt)
    have q40 : w.cell? ⟨g, 40 + s.ds.length, none⟩ = some (.int .u8 0) := h.at_ _ _ (by
      unfold Ps.cells Ps.dat
      rw [List.getElem?_append_right (by rw [beg_len]; omega), beg_len, Nat.add_sub_cancel_left, List.getElem?_append_right (by simp)]
      rw [List.length_map, Nat.sub_self, List.getElem?_replicate, if_pos (by omega)])
    have f40 := h.blk.frozen (40 + s.ds.length)
    generalize hd : s.ds = l at *
    have HL := Lib.hid hd
    have hne : ((l.length : Int) == 4096) = false := by simp; omega
    have hi1 : (l.length : Int) < 4096 := by omega
    have hw : IntKind.i64.wrap ((l.length : Int) + 1) = (l.length : Int) + 1 := IntWalk.i64_in _ (by omega)
    have hnn : 40 + l.length ≠ 38 := by omega
    clear h hn hz hd
    go_enter Tryz.func182, Tryz.ntmps182
    go_wp2_with fail
    go_region
    all_goals
      go_wp2_with fail
      go_end0
      refine ⟨rfl, ⟨?_, H.out.ok.fs, ?_, H.out.ok.it⟩, grown_trans (grown_drew grown_set) grown_set⟩
      · have h1 := Blk.set_ (Blk.set_ H.out.blk (40 + l.length) (.int .u8 (c : Int))) 38 (.int .i64 ((l.length : Int) + 1))
        rw [List.setIfInBounds_toArray, List.setIfInBounds_toArray, HC.out] at h1
        exact h1
      · show (l ++ [c]).length ≤ 4096
        simp; omega
def chB (c : Nat) : ByteArray := ⟨#[UInt8.ofNat c]⟩
theorem enc_ch (c : Nat) (h : c < 128) : Utf8.encode (c : Int) = chB c := by
  have : ∀ k : Fin 128, Utf8.encode ((k.val : Nat) : Int) = chB k.val := by decide +kernel
  exact this ⟨c, h⟩
def takeInterP (s : Ps) (c : Nat) : Ps := if s.it.size = 3 then {s with vo := true} else {s with it := s.it ++ chB c}
set_option maxRecDepth 100000 in
set_option maxHeartbeats 4000000 in
theorem takeInter_any (g : Nat) (s : Ps) (c : Nat) (hc : 32 ≤ c ∧ c ≤ 47) (w : World) (h : PsB w g s) :
    Calls Tryz.prog 177 #[.pointer (some ⟨g, 0, none⟩), .int .u8 (c : Int)] w fun e w' => e = .returned (.tuple #[]) ∧ PsB w' g (takeInterP s c) ∧ w.grownBy w' (some g) := by
  have q5 := h.at_ 5 _ rfl
  have f5 := h.blk.frozen 5
  have q39 := h.at_ 39 _ (cell_void s)
  have f39 := h.blk.frozen 39
  have H := Lib.hid h
  have h3 := h.ok.it
  unfold takeInterP
  by_cases hz : s.it.size = 3
  · rw [if_pos hz]
    clear h h3
    go_enter Tryz.func177, Tryz.ntmps177
    go_wp2_with fail
    exact bodyPost_ret (results_none rfl _ _ _) rfl ⟨rfl, H.out.put 39 (.bool true) (set_vo s true) ⟨H.out.ok.fs, H.out.ok.ds, H.out.ok.it⟩, grown_set⟩
  · rw [if_neg hz]
    have hne : ((s.it.size : Int) == 3) = false := by simp; omega
    have hsz : Hid (s.it.size ≤ 2) := Lib.hid (by omega)
    have hci : IntKind.i32.wrap (c : Int) = (c : Int) := by rw [IntKind.wrap_i32]; omega
    have hen : Utf8.encode (c : Int) = chB c := enc_ch c (by omega)
    have hu1 : Hid ((chB c).size = 1) := Lib.hid rfl
    generalize chB c = u at *
    generalize s.it = it at *
    have hadd : ∀ W : World, (Op.stringOp .add it u).run Tryz.prog W = .ok (.string (it ++ u)) W := fun W => run_string_add_sum W it u (by rw [hu1.out]; have := hsz.out; omega)
    clear h h3 hz
    go_enter Tryz.func177, Tryz.ntmps177
    go_wp2_with fail
    go_end0
    refine ⟨rfl, H.out.put 5 (.string (it ++ u)) (set_it s _) ⟨H.out.ok.fs, H.out.ok.ds, ?_⟩, grown_set⟩
    show (it ++ u).size ≤ 3
    rw [ByteArray.size_append, hu1.out]
    have := hsz.out
    omega
end Go.Proofs.YtfnamfkjbkhgeaaGreatDoor

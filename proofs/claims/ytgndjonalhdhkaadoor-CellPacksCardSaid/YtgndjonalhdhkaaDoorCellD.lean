/-
  The walks of checksums of rows.
-/
import Derived.Test.YtgndjonalhdhkaaDoorCellC
namespace Go.Proofs.YtgndjonalhdhkaaDoor

open Go.RowKit

/-- A row as it is handed over: where it lies, its capacity, its cells. -/
structure Rw where
  A : Option Addr
  c : Nat
  l : List Cl
def Rw.val (x : Rw) : Value := .slice x.A x.l.length x.c
/-- A slice of rows. -/
def RRows (w : World) (B : Option Addr) (rows : List Rw) : Prop := Reads w w.heap.size 1 B rows.length (rows.map Rw.val) ∧ ∀ x ∈ rows, RCells w x.A x.l
def OkRows (rows : List Rw) : Prop := ∀ x ∈ rows, OkCells x.l ∧ x.l.length ≤ 4611686018427387904
theorem RRows.next {w w' : World} {B : Option Addr} {rows : List Rw} (h : RRows w B rows) (hb : Below w.heap.size w w') : RRows w' B rows :=
  ⟨(Reads.below h.1 hb).more hb.size, fun x hx => (h.2 x hx).next hb⟩
theorem RRows.at_ {w : World} {B : Option Addr} {rows : List Rw} (h : RRows w B rows) {k : Nat} (hk : k < rows.length) :
    ∃ ad, B = some ad ∧ ad.block < w.heap.size ∧ w.cell? (ad.add k) = some (.slice rows[k].A rows[k].l.length rows[k].c) := by
  obtain ⟨ad, u, e, hb, hu, hc⟩ := Reads.at_ h.1 hk
  refine ⟨ad, e, hb, ?_⟩
  rw [hc, ← hu]
  simp [List.getElem?_eq_getElem hk, Rw.val]
def sumR (s : Int) (rows : List Rw) : Int := rows.foldl (fun s x => sumC s x.l) s
theorem sumR_snoc (s : Int) (rows : List Rw) (k : Nat) (hk : k < rows.length) : sumR s (rows.take (k + 1)) = sumC (sumR s (rows.take k)) rows[k].l := foldl_snoc _ s rows k hk
theorem sumR_range (rows : List Rw) : ∀ {s : Int}, 0 ≤ s → s < 65536 → 0 ≤ sumR s rows ∧ sumR s rows < 65536 := by
  induction rows with
  | nil => exact fun a b => ⟨a, b⟩
  | cons x rows ih => intro s a b; exact ih (sumC_range x.l a b).1 (sumC_range x.l a b).2

set_option maxHeartbeats 2000000 in
theorem sum_any (B : Option Addr) (c : Nat) (rows : List Rw) (hl : rows.length ≤ 4611686018427387904) (hok : OkRows rows) (w : World) (ht : Tab w) (hr : RRows w B rows) :
    Calls Tryd.prog 13 #[.slice B rows.length c] w fun e w' => e = .returned (.int .i64 (sumR 0 rows)) ∧ Below w.heap.size w w' := by
  have HOk := Lib.hid hok
  clear hok
  go_enter Tryd.func13, Tryd.ntmps13
  go_wp2_with fail
  go_loopw [3, 10] (fun s i wr => ∃ k : Nat, k ≤ rows.length ∧ i = .int .i64 k ∧ s = .int .i64 (sumR 0 (rows.take k)) ∧ Below w.heap.size w wr) (fun _ i _ => rows.length - (intOf i).toNat)
  case atStart => exact ⟨0, by omega, rfl, rfl, Below.refl _ _⟩
  case round =>
    obtain ⟨k, hk, rfl, rfl, hb⟩ := hrel
    by_cases hlt : k < rows.length
    · obtain ⟨ad, rfl, hbd, hc⟩ := (hr.next hb).at_ hlt
      have HS := Lib.hid (sumR_snoc 0 rows k hlt)
      obtain ⟨s0, s1⟩ := sumR_range (rows.take k) (s := 0) (by omega) (by omega)
      have hokx := HOk.out rows[k] (List.getElem_mem hlt)
      have hrx := hr.2 rows[k] (List.getElem_mem hlt)
      generalize sumR 0 (rows.take k) = s at *
      generalize rows[k] = x at *
      obtain ⟨A, cc, l⟩ := x
      simp only at hc HS hokx hrx
      obtain ⟨hokl, hll⟩ := hokx
      have HOkl := Lib.hid hokl
      clear hokl
      go_wp2_with fail
      obtain ⟨wo, rfl⟩ : ∃ wo : World, wo = wr := ⟨_, rfl⟩
      go_loopw [3, 16] (fun s' i wr => ∃ j : Nat, j ≤ l.length ∧ i = .int .i64 j ∧ s' = .int .i64 (sumC s (l.take j)) ∧ Below w.heap.size w wr) (fun _ i _ => l.length - (intOf i).toNat)
      case atStart => exact ⟨0, by omega, rfl, rfl, hb⟩
      case round =>
        obtain ⟨j, hj, rfl, rfl, hbj⟩ := hrel
        by_cases hltj : j < l.length
        · obtain ⟨bd, rfl, hbe, hc0, hc1, hc2⟩ := (hrx.next hbj).at_ hltj
          have HSj := Lib.hid (sumC_snoc s l j hltj)
          obtain ⟨t0, t1⟩ := sumC_range (l.take j) s0 s1
          have hokc := HOkl.out l[j] (List.getElem_mem hltj)
          generalize sumC s (l.take j) = t at *
          generalize l[j] = cl at *
          obtain ⟨g, r, b⟩ := cl
          simp only at hc0 hc1 hc2
          obtain ⟨w0, w1'⟩ := Cl.w_range ⟨g, r, b⟩
          have HW := Lib.hid (cellWeight_any g r b hokc.2)
          generalize Cl.w ⟨g, r, b⟩ = W at *
          clear hokc
          have hb0 : Below wr.heap.size wr (wr.alloc (.cells #[.int .i32 g, .int .u8 r, .bool b] 42)) := (Below.refl _ _).alloc (Nat.le_refl _) _
          go_wp2_with (go_at_call 19; refine (HW.out _ ((ht.next hbj).next hb0)).mono ?_; rintro e w1 ⟨rfl, hb1⟩)
          go_roundw
          case rel => exact ⟨j + 1, by omega, by go_num, by rw [HSj.out], (hbj.trans (hb0.mono hbj.size)).trans (hb1.mono (Nat.le_trans hbj.size hb0.size))⟩
          case measure => simp [intOf]; omega
        · obtain rfl : j = l.length := by omega
          have HE := Lib.hid (show sumR 0 (rows.take (k + 1)) = sumC s (l.take l.length) by rw [HS.out, List.take_length])
          generalize sumC s (l.take l.length) = t at *
          go_wp2
          go_roundw
          case rel => exact ⟨k + 1, by omega, by go_num, by rw [HE.out], hbj⟩
          case measure => simp [intOf]; omega
    · obtain rfl : k = rows.length := by omega
      go_wp2
      go_ret
      exact ⟨ret_int (by rw [List.take_length]), hb⟩

set_option maxHeartbeats 1000000 in
theorem negated_any (B : Option Addr) (c : Nat) (rows : List Rw) (hl : rows.length ≤ 4611686018427387904) (hok : OkRows rows) (w : World) (ht : Tab w) (hr : RRows w B rows) :
    Calls Tryd.prog 14 #[.slice B rows.length c] w fun e w' => e = .returned (.int .i64 ((65536 - sumR 0 rows) % 65536)) ∧ Below w.heap.size w w' := by
  have HS := Lib.hid (sum_any B c rows hl hok w ht hr)
  obtain ⟨s0, s1⟩ := sumR_range rows (s := 0) (by omega) (by omega)
  generalize sumR 0 rows = s at *
  go_enter Tryd.func14, Tryd.ntmps14
  go_wp2_with (go_at_call 13; refine HS.out.mono ?_; rintro e w1 ⟨rfl, hb1⟩)
  go_ret
  exact ⟨rfl, hb1⟩
end Go.Proofs.YtgndjonalhdhkaaDoor

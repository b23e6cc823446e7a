/-
  The walk that erases a span's cells.
-/
import Derived.Test.YtbndnaohjloanaaDoorLineB
namespace Go.Proofs.YtbndnaohjloanaaDoor

open Go.RowKit

def blankC : Cl := ⟨32, 0, false⟩
/-- m cells from F on erased. -/
def eraseP (L : List Cl) (F m : Nat) : List Cl := L.take F ++ List.replicate m blankC ++ L.drop (F + m)
theorem eraseP_len (L : List Cl) (F m : Nat) (h : F + m ≤ L.length) : (eraseP L F m).length = L.length := by unfold eraseP; simp; omega
theorem eraseP_zero (L : List Cl) (F : Nat) : eraseP L F 0 = L := by unfold eraseP; simp
theorem eraseP_step (L : List Cl) (F m : Nat) (h : F + m < L.length) : (eraseP L F m).set (F + m) blankC = eraseP L F (m + 1) := by
  unfold eraseP
  have h1 : (L.take F ++ List.replicate m blankC).length = F + m := by simp; omega
  rw [List.set_append_right _ _ (by omega), h1, Nat.sub_self]
  have h2 : L.drop (F + m) = L[F + m] :: L.drop (F + m + 1) := List.drop_eq_getElem_cons h
  rw [h2, List.set_cons_zero, List.replicate_succ', Nat.add_assoc F m 1]
  simp
theorem row_cell {w : World} {g k : Nat} {l : List Cl} (h : Row w g l) (hk : k < l.length) :
    w.cell? ⟨g, k * 3, none⟩ = some (.int .i32 l[k].g) ∧ w.cell? ⟨g, k * 3 + 1, none⟩ = some (.int .u8 l[k].r) ∧ w.cell? ⟨g, k * 3 + 2, none⟩ = some (.bool l[k].k) := by
  obtain ⟨h1, h2, h3⟩ := flat_at l k hk
  refine ⟨?_, ?_, ?_⟩ <;> (rw [Blk.cell h]; simpa using ‹_›)
theorem row_store {w : World} {g k : Nat} {l : List Cl} (h : Row w g l) (hk : k < l.length) (x : Cl) :
    Row (((w.setCell ⟨g, k * 3, none⟩ (.int .i32 x.g)).setCell ⟨g, k * 3 + 1, none⟩ (.int .u8 x.r)).setCell ⟨g, k * 3 + 2, none⟩ (.bool x.k)) g (l.set k x) := by
  have h1 := ((Blk.set_ h (k * 3) (.int .i32 x.g)).set_ (k * 3 + 1) (.int .u8 x.r)).set_ (k * 3 + 2) (.bool x.k)
  unfold Row
  rw [← flat_set l k hk x]
  simpa using h1
theorem grown_set1 {w : World} {g o : Nat} {v : Value} : w.grownBy (w.setCell ⟨g, o, none⟩ v) (some g) :=
  ⟨rfl, rfl, rfl, by simp [World.setCell], fun k _ hk => Below.heap_setCell w _ v k (by simpa using hk)⟩
theorem grown_tr {a b c : World} {r : Option Nat} (h : a.grownBy b r) (h' : b.grownBy c r) : a.grownBy c r :=
  ⟨h'.os.trans h.os, h'.tape.trans h.tape, h'.output.trans h.output, Nat.le_trans h.size h'.size, fun k hk hn => (h'.block k (Nat.lt_of_lt_of_le hk h.size) hn).trans (h.block k hk hn)⟩
theorem grown_of_below {w w' : World} {r : Option Nat} (h : Below w.heap.size w w') : w.grownBy w' r := ⟨h.os, h.tape, h.output, h.size, fun k hk _ => h.block k hk⟩

set_option maxRecDepth 100000 in
set_option maxHeartbeats 1000000 in
theorem eraseAll_any (g F m c : Nat) (L : List Cl) (hl : L.length ≤ 100000) (hm : F + m ≤ L.length) (w : World) (h : Row w g L) :
    Calls Tryd.prog 23 #[.slice (some ⟨g, F * 3, none⟩) m c] w fun e w' => e = .returned (.tuple #[]) ∧ Row w' g (eraseP L F m) ∧ w.grownBy w' (some g) := by
  have HR := Lib.hid h
  clear h
  go_enter Tryd.func23, Tryd.ntmps23
  go_wp2_with fail
  go_loopw [5] (fun i wr => ∃ k : Nat, k ≤ m ∧ i = .int .i64 k ∧ Row wr g (eraseP L F k) ∧ w.grownBy wr (some g)) (fun i _ => m - (intOf i).toNat)
  case atStart => exact ⟨0, by omega, rfl, by rw [eraseP_zero]; exact HR.out, World.grownBy.refl w _⟩
  case round =>
    obtain ⟨k, hk, rfl, hrow, hgr⟩ := hrel
    have HRow := Lib.hid hrow; have HGr := Lib.hid hgr
    clear hrow hgr
    by_cases hlt : k < m
    · have hlen := eraseP_len L F k (by omega)
      have HS := Lib.hid (eraseP_step L F k (by omega))
      go_wp2_with fail
      refine (erased_any _).mono ?_
      rintro e w1 ⟨rfl, hb1⟩
      have HR1 := Lib.hid (HRow.out.next hb1)
      have hk' : F + k < (eraseP L F k).length := by omega
      obtain ⟨d0, d1, d2⟩ := row_cell HR1.out hk'
      have ek : (F + k) * 3 = F * 3 + k * 3 := by omega
      rw [ek] at d0 d1 d2
      have f0 := Blk.frozen HR1.out (F * 3 + k * 3); have f1 := Blk.frozen HR1.out (F * 3 + k * 3 + 1); have f2 := Blk.frozen HR1.out (F * 3 + k * 3 + 2)
      have HSt := Lib.hid (row_store HR1.out hk' blankC)
      rw [ek] at HSt
      have HB1 := Lib.hid hb1
      clear ek hb1
      generalize (eraseP L F k)[F + k] = old at *
      unfold Cl.val
      go_wp2_with fail
      go_roundw
      case rel => exact ⟨k + 1, by omega, by go_num, by rw [← HS.out]; exact HSt.out, grown_tr (grown_tr HGr.out (grown_of_below HB1.out)) (grown_tr (grown_tr grown_set1 grown_set1) grown_set1)⟩
      case measure => simp [intOf]; omega
    · obtain rfl : k = m := by omega
      go_wp2_with fail
      go_end0
      exact ⟨rfl, HRow.out, HGr.out⟩
end Go.Proofs.YtbndnaohjloanaaDoor

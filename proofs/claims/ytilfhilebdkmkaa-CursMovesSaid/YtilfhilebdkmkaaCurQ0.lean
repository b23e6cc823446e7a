/-
  Cursors: what a deed makes of one.
-/
import Derived.Test.YtilfhilebdkmkaaCurN
namespace Go.Proofs.Ytilfhilebdkmkaa
open Go Go.RowKit

theorem and3 {w : World} {g : Nat} {T : TypeId} {v0 v1 v2 : Value} (h : Blk w g T #[v0, v1, v2]) : w.cell? ⟨g, 0, none⟩ = some v0 ∧ w.cell? ⟨g, 1, none⟩ = some v1 ∧ w.cell? ⟨g, 2, none⟩ = some v2 := ⟨h.cell 0, h.cell 1, h.cell 2⟩
def doR (H it ib : Int) (og : Bool) (k n r : Int) : Int :=
  if k = 1 then fewP (clipP r 0 (H - 1)) n 0 it else if k = 2 then moreP (clipP r 0 (H - 1)) n (H - 1) (ib - 1) else if k = 3 then clipP r 0 (H - 1) else if k = 4 then clipP r 0 (H - 1)
  else if k = 5 then lineP n (pick og it 0) (pick og ib H) else if k = 6 then lineP n (pick og it 0) (pick og ib H) else if k = 7 then clipP r (pick og it 0) (pick og ib H - 1) else if k = 8 then clipP r 0 (H - 1) else r
def doC (W il ir : Int) (og : Bool) (k n m c : Int) : Int :=
  if k = 1 then clipP c 0 (W - 1) else if k = 2 then clipP c 0 (W - 1) else if k = 3 then fewP (clipP c 0 (W - 1)) n 0 il else if k = 4 then moreP (clipP c 0 (W - 1)) n (W - 1) (ir - 1)
  else if k = 5 then lineP m (pick og il 0) (pick og ir W) else if k = 6 then clipP c (pick og il 0) (pick og ir W - 1) else if k = 7 then lineP n (pick og il 0) (pick og ir W) else if k = 8 then retC og (clipP c 0 (W - 1)) il else fitC c n
def doW (k n c : Int) (wp : Bool) : Bool :=
  if k = 1 then false else if k = 2 then false else if k = 3 then false else if k = 4 then false else if k = 5 then false else if k = 6 then false else if k = 7 then false else if k = 8 then false else fitW c n wp
theorem few_in (p n m D : Int) (hp : 0 ≤ p ∧ p ≤ D - 1) (hm : 0 ≤ m) : 0 ≤ fewP p n 0 m ∧ fewP p n 0 m ≤ p ∧ (m ≤ p → m ≤ fewP p n 0 m) := by
  unfold fewP clipP
  split <;> omega
theorem more_in (p n m D : Int) (hp : 0 ≤ p ∧ p ≤ D - 1) (hm : m ≤ D) : p ≤ moreP p n (D - 1) (m - 1) ∧ moreP p n (D - 1) (m - 1) ≤ D - 1 ∧ (p ≤ m - 1 → moreP p n (D - 1) (m - 1) ≤ m - 1) := by
  unfold moreP clipP
  split <;> omega
/-- Behind a move the cursor is on the page. -/
theorem do_in {f : Fr} {H W it il ib ir : Int} (h : FrOk f H W it il ib ir) (og : Bool) (k n m r c : Int) (hk : 1 ≤ k ∧ k ≤ 8) : (0 ≤ doR H it ib og k n r ∧ doR H it ib og k n r ≤ H - 1) ∧ (0 ≤ doC W il ir og k n m c ∧ doC W il ir og k n m c ≤ W - 1) := by
  have hp := pick_in h og
  have g1 := h.hi; have g2 := h.hj; have g3 := h.hH; have g4 := h.hW
  have cp := clip_in r H g3
  have cq := clip_in c W g4
  have fr := few_in (clipP r 0 (H - 1)) n it H cp g1.1
  have fc := few_in (clipP c 0 (W - 1)) n il W cq g2.1
  have mr := more_in (clipP r 0 (H - 1)) n ib H cp g1.2.2
  have mc := more_in (clipP c 0 (W - 1)) n ir W cq g2.2.2
  have l1 := lineP_in n (pick og it 0) (pick og ib H) (by omega)
  have l2 := lineP_in n (pick og il 0) (pick og ir W) (by omega)
  have l3 := lineP_in m (pick og il 0) (pick og ir W) (by omega)
  have hr : retC og (clipP c 0 (W - 1)) il = il ∨ retC og (clipP c 0 (W - 1)) il = 0 := by unfold retC; split <;> simp
  have a : k = 1 ∨ k = 2 ∨ k = 3 ∨ k = 4 ∨ k = 5 ∨ k = 6 ∨ k = 7 ∨ k = 8 := by omega
  rcases a with rfl | rfl | rfl | rfl | rfl | rfl | rfl | rfl
  · show (0 ≤ fewP (clipP r 0 (H - 1)) n 0 it ∧ fewP (clipP r 0 (H - 1)) n 0 it ≤ H - 1) ∧ (0 ≤ clipP c 0 (W - 1) ∧ clipP c 0 (W - 1) ≤ W - 1); omega
  · show (0 ≤ moreP (clipP r 0 (H - 1)) n (H - 1) (ib - 1) ∧ moreP (clipP r 0 (H - 1)) n (H - 1) (ib - 1) ≤ H - 1) ∧ (0 ≤ clipP c 0 (W - 1) ∧ clipP c 0 (W - 1) ≤ W - 1); omega
  · show (0 ≤ clipP r 0 (H - 1) ∧ clipP r 0 (H - 1) ≤ H - 1) ∧ (0 ≤ fewP (clipP c 0 (W - 1)) n 0 il ∧ fewP (clipP c 0 (W - 1)) n 0 il ≤ W - 1); omega
  · show (0 ≤ clipP r 0 (H - 1) ∧ clipP r 0 (H - 1) ≤ H - 1) ∧ (0 ≤ moreP (clipP c 0 (W - 1)) n (W - 1) (ir - 1) ∧ moreP (clipP c 0 (W - 1)) n (W - 1) (ir - 1) ≤ W - 1); omega
  · show (0 ≤ lineP n (pick og it 0) (pick og ib H) ∧ lineP n (pick og it 0) (pick og ib H) ≤ H - 1) ∧ (0 ≤ lineP m (pick og il 0) (pick og ir W) ∧ lineP m (pick og il 0) (pick og ir W) ≤ W - 1); omega
  · show (0 ≤ lineP n (pick og it 0) (pick og ib H) ∧ lineP n (pick og it 0) (pick og ib H) ≤ H - 1) ∧ (0 ≤ clipP c (pick og il 0) (pick og ir W - 1) ∧ clipP c (pick og il 0) (pick og ir W - 1) ≤ W - 1); unfold clipP; omega
  · show (0 ≤ clipP r (pick og it 0) (pick og ib H - 1) ∧ clipP r (pick og it 0) (pick og ib H - 1) ≤ H - 1) ∧ (0 ≤ lineP n (pick og il 0) (pick og ir W) ∧ lineP n (pick og il 0) (pick og ir W) ≤ W - 1); unfold clipP; omega
  · show (0 ≤ clipP r 0 (H - 1) ∧ clipP r 0 (H - 1) ≤ H - 1) ∧ (0 ≤ retC og (clipP c 0 (W - 1)) il ∧ retC og (clipP c 0 (W - 1)) il ≤ W - 1); omega
theorem do_wrap (k n c : Int) (wp : Bool) (hk : 1 ≤ k ∧ k ≤ 8) : doW k n c wp = false := by
  have a : k = 1 ∨ k = 2 ∨ k = 3 ∨ k = 4 ∨ k = 5 ∨ k = 6 ∨ k = 7 ∨ k = 8 := by omega
  rcases a with rfl | rfl | rfl | rfl | rfl | rfl | rfl | rfl <;> rfl
theorem ins_iff {H W it il ib ir r c : Int} : insB H W it il ib ir r c = true ↔ (it ≤ clipP r 0 (H - 1) ∧ clipP r 0 (H - 1) < ib) ∧ (il ≤ clipP c 0 (W - 1) ∧ clipP c 0 (W - 1) < ir) := by
  unfold insB inB hasB
  simp only [Bool.and_eq_true, decide_eq_true_eq]
/-- Who is within the margins, or is to be there, is so behind a move. -/
theorem do_inside {f : Fr} {H W it il ib ir : Int} (h : FrOk f H W it il ib ir) (og : Bool) (k n m r c : Int) (hk : 1 ≤ k ∧ k ≤ 8) (hin : (5 ≤ k ∧ k ≤ 7 ∧ og = true) ∨ (¬ (5 ≤ k ∧ k ≤ 7) ∧ insB H W it il ib ir r c = true)) :
    insB H W it il ib ir (doR H it ib og k n r) (doC W il ir og k n m c) = true := by
  obtain ⟨d1, d2⟩ := do_in h og k n m r c hk
  rw [ins_iff]
  have e1 : clipP (doR H it ib og k n r) 0 (H - 1) = doR H it ib og k n r := by generalize doR H it ib og k n r = z at *; unfold clipP; omega
  have e2 : clipP (doC W il ir og k n m c) 0 (W - 1) = doC W il ir og k n m c := by generalize doC W il ir og k n m c = z at *; unfold clipP; omega
  rw [e1, e2]
  have g1 := h.hi; have g2 := h.hj; have g3 := h.hH; have g4 := h.hW
  have cp := clip_in r H g3
  have cq := clip_in c W g4
  have fr := few_in (clipP r 0 (H - 1)) n it H cp g1.1
  have fc := few_in (clipP c 0 (W - 1)) n il W cq g2.1
  have mr := more_in (clipP r 0 (H - 1)) n ib H cp g1.2.2
  have mc := more_in (clipP c 0 (W - 1)) n ir W cq g2.2.2
  clear e1 e2 d1 d2
  rcases hin with ⟨k1, k2, rfl⟩ | ⟨hk2, hi⟩
  · have l1 := lineP_in n it ib (by omega)
    have l2 := lineP_in n il ir (by omega)
    have l3 := lineP_in m il ir (by omega)
    have a : k = 5 ∨ k = 6 ∨ k = 7 := by omega
    rcases a with rfl | rfl | rfl
    · show (it ≤ lineP n it ib ∧ lineP n it ib < ib) ∧ (il ≤ lineP m il ir ∧ lineP m il ir < ir); omega
    · show (it ≤ lineP n it ib ∧ lineP n it ib < ib) ∧ (il ≤ clipP c il (ir - 1) ∧ clipP c il (ir - 1) < ir); unfold clipP; omega
    · show (it ≤ clipP r it (ib - 1) ∧ clipP r it (ib - 1) < ib) ∧ (il ≤ lineP n il ir ∧ lineP n il ir < ir); unfold clipP; omega
  · rw [ins_iff] at hi
    have hr : retC og (clipP c 0 (W - 1)) il = il := if_pos (.inr hi.2.1)
    have a : k = 1 ∨ k = 2 ∨ k = 3 ∨ k = 4 ∨ k = 8 := by omega
    rcases a with rfl | rfl | rfl | rfl | rfl
    · show (it ≤ fewP (clipP r 0 (H - 1)) n 0 it ∧ fewP (clipP r 0 (H - 1)) n 0 it < ib) ∧ (il ≤ clipP c 0 (W - 1) ∧ clipP c 0 (W - 1) < ir); omega
    · show (it ≤ moreP (clipP r 0 (H - 1)) n (H - 1) (ib - 1) ∧ moreP (clipP r 0 (H - 1)) n (H - 1) (ib - 1) < ib) ∧ (il ≤ clipP c 0 (W - 1) ∧ clipP c 0 (W - 1) < ir); omega
    · show (it ≤ clipP r 0 (H - 1) ∧ clipP r 0 (H - 1) < ib) ∧ (il ≤ fewP (clipP c 0 (W - 1)) n 0 il ∧ fewP (clipP c 0 (W - 1)) n 0 il < ir); omega
    · show (it ≤ clipP r 0 (H - 1) ∧ clipP r 0 (H - 1) < ib) ∧ (il ≤ moreP (clipP c 0 (W - 1)) n (W - 1) (ir - 1) ∧ moreP (clipP c 0 (W - 1)) n (W - 1) (ir - 1) < ir); omega
    · show (it ≤ clipP r 0 (H - 1) ∧ clipP r 0 (H - 1) < ib) ∧ (il ≤ retC og (clipP c 0 (W - 1)) il ∧ retC og (clipP c 0 (W - 1)) il < ir); omega
end Go.Proofs.Ytilfhilebdkmkaa

/-
  The walks that make a line longer or shorter, and a new one.
-/
import Derived.Test.YtbndnaohjloanaaDoorLineD
namespace Go.Proofs.YtbndnaohjloanaaDoor

open Go.RowKit

/-- So many columns as may be. -/
def colsP (cols : Int) : Nat := min cols.toNat 500
theorem KL.store2 {w W : World} {a b c d : Value} (h : KL w #[a, b] #[c, d] W) (x y : Value) :
    KL w #[a, b] #[x, y] ((W.setCell ⟨w.heap.size + 1, 0, none⟩ x).setCell ⟨w.heap.size + 1, 1, none⟩ y) :=
  ⟨Blk.far (Blk.far h.1 (by simp) _) (by simp) _, (h.2.1.set_ 0 x).set_ 1 y, (h.2.2.setCell (by simp) _).setCell (by simp) _⟩
theorem KL.res {w W : World} {a b x y : Value} (h : KL w #[a, b] #[x, y] W) : W.cell? ⟨w.heap.size + 1, 0, none⟩ = some x ∧ W.cell? ⟨w.heap.size + 1, 1, none⟩ = some y ∧ W.frozen? ⟨w.heap.size + 1, 0, none⟩ = false ∧ W.frozen? ⟨w.heap.size + 1, 1, none⟩ = false :=
  ⟨h.2.1.cell 0, h.2.1.cell 1, h.2.1.frozen 0, h.2.1.frozen 1⟩

set_option maxRecDepth 100000 in
theorem eraseAll_none (A : Option Addr) (c : Nat) (w : World) :
    Calls Tryd.prog 23 #[.slice A 0 c] w fun e w' => e = .returned (.tuple #[]) ∧ w = w' := by
  go_enter Tryd.func23, Tryd.ntmps23
  go_wp2_with fail
  go_loop [5] (fun i => i = .int .i64 0) (fun i => 0)
  case atStart => exact rfl
  case round =>
    subst hrel
    go_wp2_with fail
    go_end0
    exact ⟨rfl, rfl⟩
set_option maxRecDepth 100000 in
set_option maxHeartbeats 2000000 in
theorem resize_any (A : Option Addr) (c : Nat) (l : List Cl) (size cols : Int) (w : World) (hr : RCells w A l) :
    Calls Tryd.prog 12 #[lineV A l.length c size, .int .i64 cols] w fun e w' => ∃ g, w.heap.size ≤ g ∧ e = .returned (lineV (some ⟨g, 0, none⟩) (colsP cols) (colsP cols) size) ∧ Row w' g (resP l (colsP cols)) ∧ Below w.heap.size w w' := by
  have hmin : min (max cols 0) 500 = (colsP cols : Int) := by unfold colsP; omega
  have hN : colsP cols ≤ 500 := by unfold colsP; omega
  generalize colsP cols = N at *
  obtain ⟨m, hm⟩ : ∃ m, m = min l.length N := ⟨_, rfl⟩
  have hmN : m ≤ N := by omega
  have HM := Lib.hid hm
  have HLm : Hid ((l.take m).length = m) := Lib.hid (by rw [List.length_take]; omega)
  have HF : Hid (((l.take m).flatMap Cl.cells).length = Nat.min l.length N * 3) := Lib.hid (by rw [flat_len, HLm.out, hm])
  have HMi : Hid (Nat.min l.length N = m) := Lib.hid hm.symm
  have HE := Lib.hid (erase_res l N m hm)
  have HSp := Lib.hid (splice_zero l N m hm)
  clear hm
  obtain ⟨i0, hi0, hz0, hz1, hz2⟩ := info_parts info_cell
  have HI := Lib.hid hi0; have HZ0 := Lib.hid hz0; have HZ1 := Lib.hid hz1; have HZ2 := Lib.hid hz2
  clear hi0 hz0 hz1 hz2
  have HR := Lib.hid hr
  clear hr
  unfold lineV
  have HK := Lib.hid (KL.start w #[.slice A l.length c, .int .i64 size] #[.slice none 0 0, .int .i64 0])
  have HK1 : Hid (KL w #[.slice A l.length c, .int .i64 size] #[.slice none 0 0, .int .i64 0] ((w.alloc (.cells #[.slice A l.length c, .int .i64 size] 29)).alloc (.cells #[.slice none 0 0, .int .i64 0] 29))) := HK
  go_enter Tryd.func12, Tryd.ntmps12
  go_wp2_with (first
    | (at_make; refine wpList_make_full _ rfl _ _ 22 rfl (w.heap.size + 1 + 1) 45 i0 _ 3 Tryd.underlying22 HI.out HZ0.out HZ1.out _ _ _ _ N rfl rfl rfl rfl (by rw [HZ2.out]; omega) (by unfold maxLen; omega) (by simp) ?_; intro w1 hown hgr; have hrow1 : Row w1 (w.heap.size + 1 + 1) (List.replicate N zeroC) := (by have h := own_blkN hown; rw [made_cells] at h; simpa [Row] using h); have HRow1 := Lib.hid hrow1; have HK2 := Lib.hid (KL.byNone HK.out hgr); have HB1 := Lib.hid (below_none (B := w.heap.size + 1 + 1) hgr (by simp)); obtain ⟨c0, c1⟩ := KL.two HK2.out; clear hown hgr hrow1)
    | (refine wpList_copy_n (o := ⟨some 14, _, _, _, _, _⟩) rfl (.tmp 11) (.tmp 13) 22 22 rfl 45 3 (by decide) Tryd.underlying22 (by kernel_rfl) _ _ _ _ _ _ rfl rfl (w.heap.size + 1 + 1) 0 ((List.replicate N zeroC).flatMap Cl.cells) 45 HRow1.out ((l.take m).flatMap Cl.cells) HF.out (fun hpos => ⟨by first | rfl | simp, by obtain ⟨ad, rfl, _, hcell⟩ := (HR.out.next HK2.out.2.2).take m |>.2 (by rw [flat_len] at hpos; omega); exact ⟨ad, rfl, hcell⟩⟩) (by rw [flat_len, flat_len, HLm.out, List.length_replicate]; omega) (cells_one _) (w.heap.size + 1 + 1) _ HB1.out (Nat.le_refl _) ?_; intro w2 hblk2 hb2 hg2; clear c0 c1; have HBlk2 := Lib.hid hblk2.out; have HK3 := Lib.hid (KL.far HK2.out hg2 (Nat.le_refl _)); have HB2 := Lib.hid hb2; clear hblk2 hb2 hg2; rw [HMi.out]))
  · rename_i h
    subst h
    have hE := HE.out
    have hSp := HSp.out
    rw [Nat.sub_self] at hE hSp
    rw [eraseP_zero] at hE
    have HR4 : Hid (Row w2 (w.heap.size + 1 + 1) (resP l N)) := Lib.hid (by have h := HBlk2.out; rw [hSp, hE] at h; exact h)
    clear hE hSp
    refine (eraseAll_none _ _ w2).mono ?_
    rintro e w3 ⟨rfl, rfl⟩
    have HK4 := Lib.hid HK3.out
    have HK5 := Lib.hid (KL.store2 HK4.out (.slice (some ⟨w.heap.size + 1 + 1, 0, none⟩) N N) (.int .i64 size))
    obtain ⟨c0, c1⟩ := KL.two HK4.out
    obtain ⟨c2, c3, f2, f3⟩ := KL.res HK4.out
    obtain ⟨e0, e1, _, _⟩ := KL.res HK5.out
    have HR5 : Hid (Row ((w2.setCell ⟨w.heap.size + 1, 0, none⟩ (.slice (some ⟨w.heap.size + 1 + 1, 0, none⟩) N N)).setCell ⟨w.heap.size + 1, 1, none⟩ (.int .i64 size)) (w.heap.size + 1 + 1) (resP l N)) := Lib.hid (Blk.far (Blk.far HR4.out (by simp) _) (by simp) _)
    go_wp2_with fail
    exact bodyPost_ret (v := .agg #[.slice (some ⟨w.heap.size + 1 + 1, 0, none⟩) N N, .int .i64 size]) (by simp [results, Tryd.results12, go_sem, e0, e1]) rfl ⟨w.heap.size + 1 + 1, by omega, rfl, HR5.out, HK5.out.2.2⟩
  · have HR2 : Hid (Row w2 (w.heap.size + 1 + 1) (l.take m ++ List.replicate (N - m) zeroC)) := Lib.hid (by have h := HBlk2.out; rw [HSp.out] at h; exact h)
    refine (eraseAll_any (w.heap.size + 1 + 1) m (N - m) (N - m) (l.take m ++ List.replicate (N - m) zeroC) (by rw [List.length_append, HLm.out, List.length_replicate]; omega) (by rw [List.length_append, HLm.out, List.length_replicate]; omega) w2 HR2.out).mono ?_
    rintro e w3 ⟨rfl, hrow3, hg3⟩
    rw [HE.out] at hrow3
    have HR4 := Lib.hid hrow3
    have HK4 := Lib.hid (KL.far HK3.out hg3 (Nat.le_refl _))
    clear hrow3 hg3
    have HK5 := Lib.hid (KL.store2 HK4.out (.slice (some ⟨w.heap.size + 1 + 1, 0, none⟩) N N) (.int .i64 size))
    obtain ⟨c0, c1⟩ := KL.two HK4.out
    obtain ⟨c2, c3, f2, f3⟩ := KL.res HK4.out
    obtain ⟨e0, e1, _, _⟩ := KL.res HK5.out
    have HR5 : Hid (Row ((w3.setCell ⟨w.heap.size + 1, 0, none⟩ (.slice (some ⟨w.heap.size + 1 + 1, 0, none⟩) N N)).setCell ⟨w.heap.size + 1, 1, none⟩ (.int .i64 size)) (w.heap.size + 1 + 1) (resP l N)) := Lib.hid (Blk.far (Blk.far HR4.out (by simp) _) (by simp) _)
    go_wp2_with fail
    exact bodyPost_ret (v := .agg #[.slice (some ⟨w.heap.size + 1 + 1, 0, none⟩) N N, .int .i64 size]) (by simp [results, Tryd.results12, go_sem, e0, e1]) rfl ⟨w.heap.size + 1 + 1, by omega, rfl, HR5.out, HK5.out.2.2⟩
end Go.Proofs.YtbndnaohjloanaaDoor

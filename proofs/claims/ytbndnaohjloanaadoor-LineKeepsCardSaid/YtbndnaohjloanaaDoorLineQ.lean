/-
  The walk that deletes cells.
-/
import Derived.Test.YtbndnaohjloanaaDoorLineO
namespace Go.Proofs.YtbndnaohjloanaaDoor

open Go.RowKit

set_option maxRecDepth 100000 in
set_option maxHeartbeats 8000000 in
theorem delete_any (A : Option Addr) (c : Nat) (l : List Cl) (size f t q : Int) (hl : l.length ≤ 100000) (w : World) (hr : RCells w A l) :
    Calls Tryd.prog 7 #[lineV A l.length c size, .int .i64 f, .int .i64 t, .int .i64 q] w fun e w' => ∃ g, w.heap.size ≤ g ∧ e = .returned (lineV (some ⟨g, 0, none⟩) l.length l.length size) ∧ Row w' g (delP l (loP f) (hiP l.length t - loP f) (cntP (hiP l.length t - loP f) q)) ∧ Below w.heap.size w w' := by
  have HC := Lib.hid (fun W h => copy_any A c l size hl W h)
  have HR := Lib.hid hr
  clear hr
  have HPS := Lib.hid (fun ad c' h W => part_some ad l.length c' size f t h W)
  have HPN := Lib.hid (fun A' c' h W => part_none A' l.length c' size f t h W)
  have HCt := Lib.hid (fun A' n' c' W => counted_any A' n' c' q W)
  have hT : hiP l.length t ≤ l.length := by unfold hiP; omega
  have hK : cntP (hiP l.length t - loP f) q ≤ hiP l.length t - loP f := by unfold cntP; omega
  unfold lineV at *
  generalize hn : l.length = n at *
  have HN := Lib.hid hn
  clear hn
  generalize loP f = F at *
  generalize hiP n t = T at *
  generalize hM : T - F = M at *
  generalize hKd : cntP M q = K at *
  have HKd := Lib.hid hKd
  clear hKd
  have HK := Lib.hid (KL.start w #[.slice A n c, .int .i64 size] #[.slice none 0 0, .int .i64 0])
  go_enter Tryd.func7, Tryd.ntmps7
  go_wp2_with fail
  refine (HC.out _ (HR.out.next HK.out.2.2)).mono ?_
  rintro e w1 ⟨g, hg, rfl, hrow, hb1⟩
  have HK1 := Lib.hid (KL.alloc (KL.next HK.out hb1) (.cells #[.slice (some ⟨g, 0, none⟩) n n, .int .i64 size] 29))
  have HB1 := Lib.hid (Blk.new w1 29 #[.slice (some ⟨g, 0, none⟩) n n, .int .i64 size])
  have HRow1 := Lib.hid (Blk.alloc hrow (.cells #[.slice (some ⟨g, 0, none⟩) n n, .int .i64 size] 29))
  have hgB := Row.lt hrow
  have hg2 : w.heap.size + 2 ≤ g := by simp at hg; omega
  have HFin : Hid (∀ W W' : World, KL w #[.slice A n c, .int .i64 size] #[.slice none 0 0, .int .i64 0] W → ∀ L, Row W g L → W' = (W.setCell ⟨w.heap.size + 1, 0, none⟩ (.slice (some ⟨g, 0, none⟩) n n)).setCell ⟨w.heap.size + 1, 1, none⟩ (.int .i64 size) →
      W'.cell? ⟨w.heap.size + 1, 0, none⟩ = some (.slice (some ⟨g, 0, none⟩) n n) ∧ W'.cell? ⟨w.heap.size + 1, 1, none⟩ = some (.int .i64 size) ∧ Row W' g L ∧ Below w.heap.size w W') := Lib.hid (by
    rintro W W' h L hL rfl
    have h2 := KL.store2 h (.slice (some ⟨g, 0, none⟩) n n) (.int .i64 size)
    exact ⟨(KL.res h2).1, (KL.res h2).2.1, Row.far2 hL (by omega) _ _, h2.2.2⟩)
  clear hg hrow hb1
  go_wp2_with fail
  generalize w1.heap.size = B at *
  generalize w1.alloc (.cells #[.slice (some ⟨g, 0, none⟩) n n, .int .i64 size] 29) = W1 at *
  by_cases hlt : F < T
  · refine (HPS.out _ _ (by omega) hlt _).mono ?_
    rintro e w2 ⟨rfl, hb2⟩
    rw [add_cell]
    have HK2 := Lib.hid (KL.next HK1.out hb2)
    have HB2 := Lib.hid (HB1.out.next hb2)
    have HRow2 := Lib.hid (Row.next HRow1.out hb2)
    have hM2 : F + M ≤ n := by omega
    clear hb2 hlt hT hM
    go_wp2_with fail
    refine (HCt.out _ _ _ _).mono ?_
    rintro e w3 ⟨rfl, rfl⟩
    rw [HKd.out]
    have hlen := HN.out
    have HCs : Hid (((l.drop (F + K)).take (M - K)).length = M - K) := Lib.hid (by rw [List.length_take, List.length_drop]; omega)
    have HF : Hid ((((l.drop (F + K)).take (M - K)).flatMap Cl.cells).length = Nat.min (M - K) M * 3) := Lib.hid (by rw [flat_len, HCs.out]; rw [show Nat.min (M - K) M = M - K from Nat.min_eq_left (by omega)])
    have HSp : Hid (splice (l.flatMap Cl.cells) (F * 3) (((l.drop (F + K)).take (M - K)).flatMap Cl.cells) = (l.take F ++ (l.drop (F + K)).take (M - K) ++ l.drop (F + (M - K))).flatMap Cl.cells) := Lib.hid (by
      rw [splice_cells l _ F (by rw [HCs.out]; omega), HCs.out])
    have HSt := Lib.hid (del_steps l F M K (by omega) hK)
    have HSl : Hid ((l.take F ++ (l.drop (F + K)).take (M - K) ++ l.drop (F + (M - K))).length = n) := Lib.hid (by simp; omega)
    have HSrc := Lib.hid (row_src (m := M - K) HRow2.out (show F + K ≤ l.length by omega))
    rw [show (F + K) * 3 = F * 3 + K * 3 from by omega] at HSrc
    have HFl : Hid ((l.flatMap Cl.cells).length = n * 3) := Lib.hid (by rw [flat_len, hlen])
    have HNe : Hid (0 < (((l.drop (F + K)).take (M - K)).flatMap Cl.cells).length → n - F ≠ K) := Lib.hid (by rw [flat_len, HCs.out]; omega)
    have HMin : Hid (Nat.min (M - K) M = M - K) := Lib.hid (Nat.min_eq_left (by omega))
    have hsub : (M : Int) - K = ((M - K : Nat) : Int) := by omega
    have hsub2 : M - (M - K) = K := by omega
    have HEr : Hid (∀ c' W, Row W g (l.take F ++ (l.drop (F + K)).take (M - K) ++ l.drop (F + (M - K))) → Calls Tryd.prog 23 #[.slice (some ⟨g, F * 3 + (M - K) * 3, none⟩) K c'] W fun e w' => e = .returned (.tuple #[]) ∧ Row w' g (delP l F M K) ∧ W.grownBy w' (some g)) := Lib.hid (fun c' W h => by
      have h1 := eraseAll_any g (F + (M - K)) K c' _ (by rw [HSl.out]; exact hl) (by rw [HSl.out]; omega) W h
      rw [show (F + (M - K)) * 3 = F * 3 + (M - K) * 3 from by omega, HSt.out] at h1
      exact h1)
    have HEr0 : Hid (∀ c' W, Row W g (l.take F ++ (l.drop (F + K)).take (M - K) ++ l.drop (F + (M - K))) → K = 0 → Calls Tryd.prog 23 #[.slice (some ⟨g, F * 3, none⟩) K c'] W fun e w' => e = .returned (.tuple #[]) ∧ Row w' g (delP l F M K) ∧ W.grownBy w' (some g)) := Lib.hid (fun c' W h hz => by
      have h1 := eraseAll_any g F K c' _ (by rw [HSl.out]; exact hl) (by rw [HSl.out]; omega) W h
      have h2 := HSt.out
      rw [hz, eraseP_zero] at h2
      rw [hz, eraseP_zero, h2] at h1
      rw [hz]
      exact h1)
    clear hlen
    go_wp2_with (refine wpList_copy_n (o := ⟨some 24, _, _, _, _, _⟩) rfl (.tmp 20) (.tmp 23) 22 22 rfl 45 3 (by decide) Tryd.underlying22 (by kernel_rfl) _ _ _ _ _ _ rfl rfl g (F * 3) (l.flatMap Cl.cells) 45 HRow2.out (((l.drop (F + K)).take (M - K)).flatMap Cl.cells) HF.out (fun hp => ⟨by first | rfl | simp, ⟨g, F * 3 + K * 3, none⟩, by first | rfl | (simp; intro he; exact absurd he (HNe.out hp)), HSrc.out⟩) (by rw [HFl.out, HF.out, show Nat.min (M - K) M = M - K from Nat.min_eq_left (by omega)]; omega) (cells_one _) w.heap.size w HK2.out.2.2 (by omega) ?_; intro w3 hblk3 hb3 hg3; have HBlk3 := Lib.hid hblk3.out; rw [HSp.out] at HBlk3; have HK3 := Lib.hid (KL.far HK2.out hg3 hg2); have HB3 := Lib.hid (Blk.grown HB2.out hg3 (by simp; omega)); clear hblk3 hb3 hg3)
    all_goals
      have HRow3 : Hid (Row w3 g (l.take F ++ (l.drop (F + K)).take (M - K) ++ l.drop (F + (M - K)))) := HBlk3
      first | (with_reducible refine (HEr.out _ _ HRow3.out).mono ?_) | (with_reducible refine (HEr0.out _ _ HRow3.out (by omega)).mono ?_)
      rintro e w4 ⟨rfl, hrow4, hg4⟩
      have HRow4 := Lib.hid hrow4
      have HK4 := Lib.hid (KL.far HK3.out hg4 hg2)
      have HB4 := Lib.hid (Blk.grown HB3.out hg4 (by simp; omega))
      clear hrow4 hg4
      have b0 : w4.cell? ⟨B, 0, none⟩ = some (.slice (some ⟨g, 0, none⟩) n n) := HB4.out.cell 0
      have b1 : w4.cell? ⟨B, 1, none⟩ = some (.int .i64 size) := HB4.out.cell 1
      obtain ⟨c2, c3, f2, f3⟩ := KL.res HK4.out
      go_wp2_with fail
      obtain ⟨e0, e1, h3, h4⟩ := HFin.out _ _ HK4.out _ HRow4.out rfl
      exact bodyPost_ret (v := .agg #[.slice (some ⟨g, 0, none⟩) n n, .int .i64 size]) (by simp [results, Tryd.results7, go_sem, e0, e1]) rfl ⟨g, by omega, rfl, h3, h4⟩
  · obtain rfl : M = 0 := by omega
    obtain rfl : K = 0 := by omega
    clear hM hT hK
    refine (HPN.out _ _ (by omega) _).mono ?_
    rintro e w2 ⟨rfl, hb2⟩
    have HK2 := Lib.hid (KL.next HK1.out hb2)
    have HB2 := Lib.hid (HB1.out.next hb2)
    have HRow2 : Hid (Row w2 g (delP l F 0 0)) := Lib.hid (by rw [delP_none]; exact Row.next HRow1.out hb2)
    clear hb2 hlt
    go_wp2_with fail
    refine (HCt.out _ _ _ _).mono ?_
    rintro e w3 ⟨rfl, rfl⟩
    rw [HKd.out]
    have HCz : Hid (([] : List Cl).flatMap Cl.cells = []) := Lib.hid rfl
    go_wp2_with (refine wpList_copy_n (o := ⟨some 24, _, _, _, _, _⟩) rfl (.tmp 20) (.tmp 23) 22 22 rfl 45 3 (by decide) Tryd.underlying22 (by kernel_rfl) _ _ _ _ _ _ rfl rfl g 0 ((delP l F 0 0).flatMap Cl.cells) 45 HRow2.out [] (by first | rfl | simp) (fun hp => absurd hp (by simp)) (by simp) (by simp) w.heap.size w HK2.out.2.2 (by omega) ?_; intro w3 hblk3 hb3 hg3; have HBlk3 : Hid (Row w3 g (delP l F 0 0)) := Lib.hid (by have h := hblk3.out; simpa [splice, Row, Blk] using h); have HK3 := Lib.hid (KL.far HK2.out hg3 hg2); have HB3 := Lib.hid (Blk.grown HB2.out hg3 (by simp; omega)); clear hblk3 hb3 hg3)
    refine (eraseAll_none _ _ _).mono ?_
    rintro e w4 ⟨rfl, rfl⟩
    have b0 : w3.cell? ⟨B, 0, none⟩ = some (.slice (some ⟨g, 0, none⟩) n n) := HB3.out.cell 0
    have b1 : w3.cell? ⟨B, 1, none⟩ = some (.int .i64 size) := HB3.out.cell 1
    obtain ⟨c2, c3, f2, f3⟩ := KL.res HK3.out
    go_wp2_with fail
    obtain ⟨e0, e1, h3, h4⟩ := HFin.out _ _ HK3.out _ HBlk3.out rfl
    exact bodyPost_ret (v := .agg #[.slice (some ⟨g, 0, none⟩) n n, .int .i64 size]) (by simp [results, Tryd.results7, go_sem, e0, e1]) rfl ⟨g, by omega, rfl, h3, h4⟩
end Go.Proofs.YtbndnaohjloanaaDoor

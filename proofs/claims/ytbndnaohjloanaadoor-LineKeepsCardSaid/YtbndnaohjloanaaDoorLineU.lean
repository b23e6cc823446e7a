/-
  The walks that lay a row on a span, and that cut a span.
-/
import Derived.Test.YtbndnaohjloanaaDoorLineS
import Derived.Test.YtbndnaohjloanaaDoorLineT
namespace Go.Proofs.YtbndnaohjloanaaDoor

open Go.RowKit

set_option maxRecDepth 100000 in
set_option maxHeartbeats 4000000 in
theorem lay_any (A : Option Addr) (c : Nat) (l : List Cl) (size f t : Int) (A2 : Option Addr) (c2 : Nat) (row : List Cl) (hl : l.length ≤ 100000) (w : World) (hr : RCells w A l) (hr2 : RCells w A2 row) :
    Calls Tryd.prog 11 #[lineV A l.length c size, .int .i64 f, .int .i64 t, .slice A2 row.length c2] w fun e w' => ∃ g, w.heap.size ≤ g ∧ e = .returned (lineV (some ⟨g, 0, none⟩) l.length l.length size) ∧ Row w' g (layP l (loP f) (hiP l.length t) row) ∧ Below w.heap.size w w' := by
  have HC := Lib.hid (fun W h => copy_any A c l size hl W h)
  have HR := Lib.hid hr
  have HR2 := Lib.hid hr2
  clear hr hr2
  have HPS := Lib.hid (fun ad c' h W => part_some ad l.length c' size f t h W)
  have HPN := Lib.hid (fun A' c' h W => part_none A' l.length c' size f t h W)
  have hT : hiP l.length t ≤ l.length := by unfold hiP; omega
  unfold lineV at *
  generalize hn : l.length = n at *
  have HN := Lib.hid hn
  clear hn
  generalize loP f = F at *
  generalize hiP n t = T at *
  have HK := Lib.hid (KL.start w #[.slice A n c, .int .i64 size] #[.slice none 0 0, .int .i64 0])
  go_enter Tryd.func11, Tryd.ntmps11
  go_wp2_with fail
  refine (HC.out _ (HR.out.next HK.out.2.2)).mono ?_
  rintro e w1 ⟨g, hg, rfl, hrow, hb1⟩
  have HK1 := Lib.hid (KL.alloc (KL.next HK.out hb1) (.cells #[.slice (some ⟨g, 0, none⟩) n n, .int .i64 size] 29))
  have HB1 := Lib.hid (Blk.new w1 29 #[.slice (some ⟨g, 0, none⟩) n n, .int .i64 size])
  have HRow1 := Lib.hid (Blk.alloc hrow (.cells #[.slice (some ⟨g, 0, none⟩) n n, .int .i64 size] 29))
  have hgB := Row.lt hrow
  have hg2 : w.heap.size + 2 ≤ g := by simp at hg; omega
  have HFin : Hid (∀ W W' : World, KL w #[.slice A n c, .int .i64 size] #[.slice none 0 0, .int .i64 0] W → ∀ L, Row W g L → W' = (W.setCell ⟨w.heap.size + 1, 0, none⟩ (.slice (some ⟨g, 0, none⟩) n n)).setCell ⟨w.heap.size + 1, 1, none⟩ (.int .i64 size) →
      W'.cell? ⟨w.heap.size + 1, 0, none⟩ = some (.slice (some ⟨g, 0, none⟩) n n) ∧ W'.cell? ⟨w.heap.size + 1, 1, none⟩ = some (.int .i64 size) ∧ Row W' g L ∧ Below w.heap.size w W') := Lib.hid (by
    rintro W W' h L hL rfl
    have h2 := KL.store2 h (.slice (some ⟨g, 0, none⟩) n n) (.int .i64 size)
    exact ⟨(KL.res h2).1, (KL.res h2).2.1, Row.far2 hL (by omega) _ _, h2.2.2⟩)
  clear hg hrow hb1
  go_wp2_with fail
  generalize w1.heap.size = B at *
  generalize w1.alloc (.cells #[.slice (some ⟨g, 0, none⟩) n n, .int .i64 size] 29) = W1 at *
  by_cases hlt : F < T
  · refine (HPS.out _ _ (by omega) hlt _).mono ?_
    rintro e w2 ⟨rfl, hb2⟩
    rw [add_cell]
    have HK2 := Lib.hid (KL.next HK1.out hb2)
    have HB2 := Lib.hid (HB1.out.next hb2)
    have HRow2 := Lib.hid (Row.next HRow1.out hb2)
    clear hb2
    have hlen := HN.out
    obtain ⟨m, hm⟩ : ∃ m, m = Nat.min row.length (T - F) := ⟨_, rfl⟩
    have hmle : m ≤ row.length ∧ F + m ≤ n := by have h1 : m ≤ row.length := hm ▸ Nat.min_le_left _ _; have h2 : m ≤ T - F := hm ▸ Nat.min_le_right _ _; omega
    have HCs : Hid ((row.take (T - F)).length = m) := Lib.hid (by rw [List.length_take, hm]; exact Nat.min_comm _ _)
    have HF : Hid (((row.take (T - F)).flatMap Cl.cells).length = Nat.min row.length (T - F) * 3) := Lib.hid (by rw [flat_len, HCs.out, hm])
    have HSp : Hid (splice (l.flatMap Cl.cells) (F * 3) ((row.take (T - F)).flatMap Cl.cells) = (layP l F T row).flatMap Cl.cells) := Lib.hid (by
      rw [splice_cells l _ F (by rw [HCs.out, hlen]; omega), HCs.out]
      unfold layP
      rw [hm, show min (T - F) row.length = Nat.min row.length (T - F) from Nat.min_comm _ _])
    have HFl : Hid ((l.flatMap Cl.cells).length = n * 3) := Lib.hid (by rw [flat_len, hlen])
    have HM := Lib.hid hm
    have hT2 : F + (T - F) ≤ n := by omega
    clear hlen hm hlt
    go_wp2_with (refine wpList_copy_n (o := ⟨some 17, _, _, _, _, _⟩) rfl (.tmp 15) (.tmp 16) 22 22 rfl 45 3 (by decide) Tryd.underlying22 (by kernel_rfl) _ _ _ _ _ _ rfl rfl g (F * 3) (l.flatMap Cl.cells) 45 HRow2.out ((row.take (T - F)).flatMap Cl.cells) HF.out (fun hp => ⟨by first | rfl | simp, by obtain ⟨ad, rfl, _, hcell⟩ := ((HR2.out.next HK2.out.2.2).take (T - F)).2 (by rw [flat_len] at hp; omega); exact ⟨ad, rfl, hcell⟩⟩) (by rw [HFl.out, flat_len, HCs.out]; omega) (cells_one _) w.heap.size w HK2.out.2.2 (by omega) ?_; intro w3 hblk3 hb3 hg3; have HBlk3 := Lib.hid hblk3.out; rw [HSp.out] at HBlk3; have HRow3 : Hid (Row w3 g (layP l F T row)) := Lib.hid HBlk3.out; have HK3 := Lib.hid (KL.far HK2.out hg3 hg2); have HB3 := Lib.hid (Blk.grown HB2.out hg3 (by simp; omega)); clear hblk3 hb3 hg3 HBlk3; have b0 : w3.cell? ⟨B, 0, none⟩ = some (.slice (some ⟨g, 0, none⟩) n n) := HB3.out.cell 0; have b1 : w3.cell? ⟨B, 1, none⟩ = some (.int .i64 size) := HB3.out.cell 1; obtain ⟨c2, c3, f2, f3⟩ := KL.res HK3.out)
    all_goals
      obtain ⟨e0, e1, h3, h4⟩ := HFin.out _ _ HK3.out _ HRow3.out rfl
      exact bodyPost_ret (v := .agg #[.slice (some ⟨g, 0, none⟩) n n, .int .i64 size]) (by simp [results, Tryd.results11, go_sem, e0, e1]) rfl ⟨g, by omega, rfl, h3, h4⟩
  · refine (HPN.out _ _ (by omega) _).mono ?_
    rintro e w2 ⟨rfl, hb2⟩
    have HK2 := Lib.hid (KL.next HK1.out hb2)
    have HB2 := Lib.hid (HB1.out.next hb2)
    have HRow2 : Hid (Row w2 g (layP l F T row)) := Lib.hid (by rw [layP_none _ _ _ _ (by omega)]; exact Row.next HRow1.out hb2)
    clear hb2 hlt hT
    have HMi : Hid (0 = Nat.min row.length 0) := Lib.hid (Nat.min_zero _).symm
    go_wp2_with (refine wpList_copy_n (o := ⟨some 17, _, _, _, _, _⟩) rfl (.tmp 15) (.tmp 16) 22 22 rfl 45 3 (by decide) Tryd.underlying22 (by kernel_rfl) _ _ _ _ _ _ rfl rfl g 0 ((layP l F T row).flatMap Cl.cells) 45 HRow2.out [] (by rw [← HMi.out]; rfl) (fun hp => absurd hp (by simp)) (by simp) (by simp) w.heap.size w HK2.out.2.2 (by omega) ?_; intro w3 hblk3 hb3 hg3; have HRow3 : Hid (Row w3 g (layP l F T row)) := Lib.hid (by have h := hblk3.out; simpa [splice, Row, Blk] using h); have HK3 := Lib.hid (KL.far HK2.out hg3 hg2); have HB3 := Lib.hid (Blk.grown HB2.out hg3 (by simp; omega)); clear hblk3 hb3 hg3; have b0 : w3.cell? ⟨B, 0, none⟩ = some (.slice (some ⟨g, 0, none⟩) n n) := HB3.out.cell 0; have b1 : w3.cell? ⟨B, 1, none⟩ = some (.int .i64 size) := HB3.out.cell 1; obtain ⟨c2, c3, f2, f3⟩ := KL.res HK3.out)
    all_goals
      obtain ⟨e0, e1, h3, h4⟩ := HFin.out _ _ HK3.out _ HRow3.out rfl
      exact bodyPost_ret (v := .agg #[.slice (some ⟨g, 0, none⟩) n n, .int .i64 size]) (by simp [results, Tryd.results11, go_sem, e0, e1]) rfl ⟨g, by omega, rfl, h3, h4⟩

/-- Part of what a slice of cells reads. -/
theorem rcells_part {w : World} {ad : Addr} {l : List Cl} (h : RCells w (some ad) l) (F T : Nat) (hT : T ≤ l.length) : RCells w (some (ad.add (F * 3))) (cutP l F T) := by
  refine ⟨flat_len _, fun hn => ?_⟩
  rw [cutP_len l F T hT] at hn
  obtain ⟨ad', e, hb, hc⟩ := h.2 (by omega)
  injection e with e
  subst e
  refine ⟨_, rfl, by rw [block_of_add]; exact hb, fun j u hu => ?_⟩
  rw [add_of_add]
  refine hc _ _ ?_
  rw [← hu]
  have e1 : l.flatMap Cl.cells = (l.take F).flatMap Cl.cells ++ ((cutP l F T).flatMap Cl.cells ++ ((l.drop F).drop (T - F)).flatMap Cl.cells) := by
    unfold cutP
    rw [← List.flatMap_append, ← List.flatMap_append, List.take_append_drop, List.take_append_drop]
  have hl : ((l.take F).flatMap Cl.cells).length = F * 3 := by rw [flat_len, List.length_take]; omega
  have hj : j < ((cutP l F T).flatMap Cl.cells).length := by
    rcases Nat.lt_or_ge j ((cutP l F T).flatMap Cl.cells).length with h' | h'
    · exact h'
    · rw [List.getElem?_eq_none h'] at hu; cases hu
  rw [e1, List.getElem?_append_right (by omega), hl, Nat.add_sub_cancel_left, List.getElem?_append_left hj]

set_option maxRecDepth 100000 in
set_option maxHeartbeats 2000000 in
theorem cut_any (A : Option Addr) (c : Nat) (l : List Cl) (size f t : Int) (hl : l.length ≤ 100000) (hc : l.length ≤ c) (w : World) (hr : RCells w A l) :
    Calls Tryd.prog 15 #[lineV A l.length c size, .int .i64 f, .int .i64 t] w fun e w' => ∃ g, w.heap.size ≤ g ∧ e = .returned (.slice (some ⟨g, 0, none⟩) (hiP l.length t - loP f) (hiP l.length t - loP f)) ∧ Row w' g (cutP l (loP f) (hiP l.length t)) ∧ Below w.heap.size w w' := by
  have HPS := Lib.hid (fun ad h W => part_some ad l.length c size f t hc h W)
  have HPN := Lib.hid (fun A' h W => part_none A' l.length c size f t h W)
  have hT : hiP l.length t ≤ l.length := by unfold hiP; omega
  have HCp := Lib.hid (fun A' c' L (hL : L.length ≤ 100000) W h => copied_any A' c' L hL W h)
  have HL := Lib.hid (cutP_len l (loP f) _ hT)
  have HR := Lib.hid hr
  clear hr
  unfold lineV at *
  generalize loP f = F at *
  generalize hiP l.length t = T at *
  have HK := Lib.hid (KO.start w #[.slice A l.length c, .int .i64 size])
  obtain ⟨c0, c1⟩ := KO.two HK.out
  by_cases hlt : F < T
  · obtain ⟨ad, rfl, _⟩ := HR.out.2 (by omega)
    have HP := Lib.hid (fun W (h : RCells W (some ad) l) => rcells_part h F T hT)
    have hTl : T - F ≤ 100000 := by omega
    go_enter Tryd.func15, Tryd.ntmps15
    go_wp2_with fail
    refine (HPS.out ad hlt _).mono ?_
    rintro e w2 ⟨rfl, hb2⟩
    have HR2 := Lib.hid (HP.out _ ((HR.out.next HK.out.2).next hb2))
    have HB2 := Lib.hid (HK.out.2.trans (hb2.mono HK.out.2.size))
    have hz2 := HB2.out.size
    clear hb2 c0 c1
    have HC2 := Lib.hid (HCp.out (some (ad.add (F * 3))) (c - F) (cutP l F T) (by rw [HL.out]; exact hTl) _ HR2.out)
    rw [HL.out] at HC2
    go_wp2_with fail
    refine HC2.out.mono ?_
    rintro e w3 ⟨rfl, hrow, hb3⟩
    have HRow := Lib.hid hrow
    have HB3 := Lib.hid (HB2.out.trans (hb3.mono HB2.out.size))
    clear hrow hb3
    go_wp2_with fail
    go_ret
    exact ⟨w2.heap.size, hz2, rfl, HRow.out, HB3.out⟩
  · have e0 : T - F = 0 := by omega
    have HN : Hid (cutP l F T = []) := Lib.hid (cutP_out l F T (by omega))
    rw [e0, HN.out]
    have HPNo := Lib.hid (fun W => HPN.out A (by omega) W)
    clear e0 hlt hT HN HL HPS HPN
    go_enter Tryd.func15, Tryd.ntmps15
    go_wp2_with fail
    refine (HPNo.out _).mono ?_
    rintro e w2 ⟨rfl, hb2⟩
    have HB2 := Lib.hid (HK.out.2.trans (hb2.mono HK.out.2.size))
    have hz2 := HB2.out.size
    clear hb2 c0 c1
    have HC2 := Lib.hid (HCp.out none 0 [] (by decide) w2 Reads.none_)
    rw [List.length_nil] at HC2
    go_wp2_with fail
    refine HC2.out.mono ?_
    rintro e w3 ⟨rfl, hrow, hb3⟩
    have HRow := Lib.hid hrow
    have HB3 := Lib.hid (HB2.out.trans (hb3.mono HB2.out.size))
    clear hrow hb3
    go_wp2_with fail
    go_ret
    exact ⟨w2.heap.size, hz2, rfl, HRow.out, HB3.out⟩
end Go.Proofs.YtbndnaohjloanaaDoor

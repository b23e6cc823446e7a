/-
  LineKeeps holds, whatever the input: the card of the statement, with the table of parts tied to the program's text.
-/
import Derived.Test.YtbndnaohjloanaaDoorCards
import Derived.Test.YtbndnaohjloanaaDoorTie
import Derived.Test.YtbndnaohjloanaaDoorFrame
import Derived.Test.YtbndnaohjloanaaDoorFrameB
import Derived.Test.YtbndnaohjloanaaDoorFrameC
import Derived.Test.YtbndnaohjloanaaDoorDeedD
import Derived.Test.YtbndnaohjloanaaDoorLineU
import Derived.Test.YtbndnaohjloanaaDoorKeepD
import Derived.Test.YtbndnaohjloanaaDoorFrameL
namespace Go.Proofs.YtbndnaohjloanaaDoor.lineKeeps
open Go.ChangeShapes Go.WideShapes Go.ChangeAt Go.RowKit
open Go.ChangeMaps (open_string)

def IlP (u : Value) : Prop := ∃ g, u = .slice (some ⟨g, 0, none⟩) 1 1
def IlF (B : Nat) (u : Value) (W : World) : Prop := ∃ g, u = .slice (some ⟨g, 0, none⟩) 1 1 ∧ B ≤ g ∧ RInts W (some ⟨g, 0, none⟩) [1] ∧ Blk W g 3 #[.int .i64 1]
theorem ilF_stab (ks : Kinds) (wr : World) (h : boxes ks = []) : ∀ v w w', Kept ks wr w w' → IlF wr.heap.size v w → IlF wr.heap.size v w' := by
  rintro v w w' hk ⟨g, e, hB, _, hb⟩
  have hb' : Blk w' g 3 #[.int .i64 1] := (hk.block g hb.lt hB (fun cs T fr _ => by rw [h]; simp)).trans hb
  refine ⟨g, e, hB, ⟨by simp, fun _ => ⟨_, rfl, hb'.lt, fun j u hu => ?_⟩⟩, hb'⟩
  rw [add_cell, hb'.cell]
  simpa using hu
theorem got_il {B g : Nat} {u : Value} {W : World} (h : IlF B u W) (e : u = .slice (some ⟨g, 0, none⟩) 1 1) : RInts W (some ⟨g, 0, none⟩) [1] := by
  obtain ⟨g', e', _, hr, _⟩ := h
  rw [e] at e'
  injection e' with e' _ _
  rw [e']
  exact hr
set_option maxRecDepth 100000 in
set_option maxHeartbeats 32000000 in
theorem walk (A : Option Addr) (c : Nat) (l : List Cl) (_hl : l.length ≤ maxLen) (hc : l.length ≤ c) (ok : OkCells l) (f t q : Int) (w : World) (ht : Tab w) (hr : RCells w A l) :
    Calls Tryd.prog 3 #[.slice A l.length c, .agg #[.int .i64 f, .int .i64 t, .int .i64 q]] w fun e w' => e = .returned (.bool true) ∧ Below w.heap.size w w' := by
  have HAw := Lib.hid (fun W => awake_any W)
  have hokL : OkCells (l.take 200) := fun y hy => ok y (List.mem_of_mem_take hy)
  have hL2 : (l.take 200).length ≤ 200 := by rw [List.length_take]; omega
  have HR := Lib.hid (hr.take 200); have HT := Lib.hid ht
  obtain ⟨n, hLn⟩ : ∃ n, (l.take 200).length = n := ⟨_, rfl⟩
  have hcase : (decide ((200 : Int) < (l.length : Nat)) = false ∧ l.length = n ∧ l.length ≤ c) ∨ (decide ((200 : Int) < (l.length : Nat)) = true ∧ 200 = n ∧ 200 ≤ c) := by
    rw [List.length_take] at hLn
    by_cases h : 200 < l.length
    · exact .inr ⟨by simp; omega, by omega, by omega⟩
    · exact .inl ⟨by simp; omega, by omega, hc⟩
  clear hr ht ok hc
  generalize l.length = n0 at *
  generalize l.take 200 = L at *
  have HSp := Lib.hid (fun W h => spare_any A c L (by omega) W h)
  have HKe := Lib.hid (fun P d W h1 h2 => kept_any P A d c L (by omega) W h1 h2)
  have HSl := Lib.hid (spareL_len L)
  have hT : hiP n t ≤ n := by unfold hiP; omega
  have hT2 : hiP L.length t ≤ L.length := by unfold hiP; omega
  have HIn := Lib.hid (fun B d W h => insert_any B d L 0 f t q (by omega) W h)
  have HDe := Lib.hid (fun B d W h => delete_any B d L 0 f t q (by omega) W h)
  have HEr := Lib.hid (fun B d W h => erase_any B d L 0 f t (by omega) W h)
  have HCl := Lib.hid (fun B d W h => clean_any B d L 0 f t (by omega) W h)
  have HCh := Lib.hid (fun B d P W h (tW : Tab W) (nW : RInts W P [1]) => change_any B d L 0 f t (by omega) hokL P 1 [1] (by simp [maxLen]) W h tW nW)
  have HLa := Lib.hid (fun B d W h => lay_any B d L 0 f t B d L (by omega) W h h)
  have HRe := Lib.hid (fun B d W h => resize_any B d L 0 t W h)
  have HSi := Lib.hid (fun B d W h => sized_any B d L 0 1 (by omega) W h)
  have HCo := Lib.hid (fun B d W h => copy_any B d L 0 (by omega) W h)
  have HCu := Lib.hid (fun B d (hd : L.length ≤ d) W h => cut_any B d L 0 f t (by omega) hd W h)
  have hz1 : sizedP 1 = 1 := rfl
  rw [hz1] at HSi
  have hNc : colsP t ≤ 500 := by unfold colsP; omega
  have HNc := Lib.hid hNc
  have hresl := resP_len L (colsP t)
  have g1 : (insP L (loP f) (hiP L.length t - loP f) (cntP (hiP L.length t - loP f) q)).length = n := by
    by_cases h : loP f ≤ hiP L.length t
    · rw [insP_len _ _ _ _ (by omega) (by unfold cntP; omega), hLn]
    · rw [show hiP L.length t - loP f = 0 from by omega, show cntP 0 q = 0 from by unfold cntP; omega, insP_none, hLn]
  have g2 : (delP L (loP f) (hiP L.length t - loP f) (cntP (hiP L.length t - loP f) q)).length = n := by
    by_cases h : loP f ≤ hiP L.length t
    · rw [delP_len _ _ _ _ (by omega) (by unfold cntP; omega), hLn]
    · rw [show hiP L.length t - loP f = 0 from by omega, show cntP 0 q = 0 from by unfold cntP; omega, delP_none, hLn]
  have g3 : ∀ φ : Cl → Cl, (eachP φ L (loP f) (hiP L.length t - loP f)).length = n := by
    intro φ
    by_cases h : loP f ≤ hiP L.length t
    · rw [eachP_len _ _ _ _ (by omega), hLn]
    · rw [show hiP L.length t - loP f = 0 from by omega, eachP_zero, hLn]
  have g4 : (layP L (loP f) (hiP L.length t) L).length = n := by
    by_cases h : loP f ≤ hiP L.length t
    · rw [layP_len _ _ _ _ hT2 h, hLn]
    · rw [layP_none _ _ _ _ (by omega), hLn]
  have g5 : (cutP L (loP f) (hiP L.length t)).length = hiP L.length t - loP f := cutP_len _ _ _ hT2
  have HG1 := Lib.hid g1; have HG2 := Lib.hid g2; have HG3 := Lib.hid (g3 (fun _ => ⟨32, 0, false⟩)); have HG4 := Lib.hid (g3 (cleanC 32)); have HG5 := Lib.hid (g3 (applyC [1])); have HG6 := Lib.hid g4; have HG7 := Lib.hid hresl; have HG8 := Lib.hid g5
  clear g1 g2 g3 g4 g5 hresl
  generalize insP L (loP f) (hiP L.length t - loP f) (cntP (hiP L.length t - loP f) q) = E1 at *
  generalize delP L (loP f) (hiP L.length t - loP f) (cntP (hiP L.length t - loP f) q) = E2 at *
  generalize eachP (fun _ => (⟨32, 0, false⟩ : Cl)) L (loP f) (hiP L.length t - loP f) = E3 at *
  generalize eachP (cleanC 32) L (loP f) (hiP L.length t - loP f) = E4 at *
  generalize eachP (applyC [1]) L (loP f) (hiP L.length t - loP f) = E5 at *
  generalize layP L (loP f) (hiP L.length t) L = E6 at *
  generalize resP L (colsP t) = E7 at *
  generalize cutP L (loP f) (hiP L.length t) = E8 at *
  have HMc : Hid (hiP L.length t - loP f ≤ n) := Lib.hid (by omega)
  generalize hiP L.length t - loP f = mc at *
  generalize colsP t = N at *
  clear hT hT2 hNc hz1 hokL
  simp only [List.length_singleton] at HCh
  simp only [hLn] at HSp HKe HIn HDe HEr HCl HCh HLa HRe HSi HCo HCu HSl
  have HLn := Lib.hid hLn
  have HN2 : Hid (n ≤ 200) := Lib.hid (by omega)
  clear hLn hL2
  unfold lineV at HIn HDe HEr HCl HCh HLa HRe HSi HCo HCu
  rcases hcase with ⟨hd, rfl, h200⟩ | ⟨hd, rfl, h200⟩
  · go_enter Tryd.func3, Tryd.ntmps3
    go_wp2_with fail
    refine (HAw.out _).mono ?_
    rintro e w1 ⟨rfl, hb1⟩
    have HS1 := Lib.hid ((Blk.new w 24 #[.int .i64 f, .int .i64 t, .int .i64 q]).next hb1)
    have HB1 := Lib.hid (((Below.refl w.heap.size w).alloc (Nat.le_refl _) (.cells #[.int .i64 f, .int .i64 t, .int .i64 q] 24)).trans (hb1.mono (by simp)))
    clear hb1
    go_wp2_with fail
    refine (HSp.out _ (HR.out.next HB1.out)).mono ?_
    rintro e w2 ⟨g, hg, rfl, hrow, hb2⟩
    have HGg : Hid (w.heap.size ≤ g ∧ g < w2.heap.size) := Lib.hid ⟨Nat.le_trans HB1.out.size hg, Row.lt hrow⟩
    have HS2 := Lib.hid (HS1.out.next hb2); have HB2 := Lib.hid (HB1.out.trans (hb2.mono HB1.out.size)); have HRow2 := Lib.hid hrow
    clear hb2 hrow hg
    go_upto_region 8 with fail
    refine world_genL (fun X => Blk X w2.heap.size 29 #[.slice (some ⟨g, 0, none⟩) n0 (n0 + 9), .int .i64 0] ∧ Blk X w.heap.size 24 #[.int .i64 f, .int .i64 t, .int .i64 q] ∧ Row X g (spareL L) ∧ X.ownsRow (w2.heap.size + 1) 22 1 (.slice (some ⟨w2.heap.size + 1, 0, none⟩) 1 1) 1 [.slice (some ⟨g, 0, none⟩) (n0 + 9) (n0 + 9)] ∧ Below w.heap.size w X ∧ w2.heap.size + 2 = X.heap.size)
      ⟨(Blk.new w2 _ _).alloc _, (HS2.out.alloc _).alloc _, (Blk.alloc HRow2.out _).alloc _, new_lists w2 _ _, (HB2.out.alloc HB2.out.size _).alloc (by have := HB2.out.size; simp; omega) _, by simp⟩ ?_
    intro W4 ⟨hl4, hs4, hr4, ho4, hb4, hz4⟩
    have HRow4 := Lib.hid hr4; have HO4 := Lib.hid ho4; have HB4 := Lib.hid hb4; have HZ4 := Lib.hid hz4
    have hri : RCells W4 (some ⟨g, 0, none⟩) L := by have := (Row.reads hr4).take L.length; rw [spare_take] at this; exact this
    have HRi := Lib.hid hri
    have HT4 := Lib.hid (HT.out.next hb4)
    have HCc : Hid (∀ w', Only [] W4 w' → (w'.cell? ⟨w2.heap.size, 0, none⟩ = some (.slice (some ⟨g, 0, none⟩) n0 (n0 + 9)) ∧ w'.cell? ⟨w2.heap.size, 1, none⟩ = some (.int .i64 0)) ∧ w'.cell? ⟨w.heap.size, 0, none⟩ = some (.int .i64 f) ∧ w'.cell? ⟨w.heap.size, 1, none⟩ = some (.int .i64 t) ∧ w'.cell? ⟨w.heap.size, 2, none⟩ = some (.int .i64 q)) := Lib.hid (fun w' h => ⟨⟨(hl4.next h.below0).cell 0, (hl4.next h.below0).cell 1⟩, (hs4.next h.below0).cell 0, (hs4.next h.below0).cell 1, (hs4.next h.below0).cell 2⟩)
    have HS4 := Lib.hid hs4; have HL4 := Lib.hid hl4
    clear hl4 hs4 hr4 ho4 hb4 hz4 hri HS2 HRow2 HB2 HB1 HS1
    refine wp_region_mix_lit (by kernel_rfl) [(7, .fresh (LnP n0 0) (LnF W4.heap.size E1 0)), (15, .fresh (LnP n0 0) (LnF W4.heap.size E2 0)), (21, .fresh (LnP n0 0) (LnF W4.heap.size E3 0)), (27, .fresh (LnP n0 0) (LnF W4.heap.size E4 0)), (33, .letter IlP (IlF W4.heap.size)), (34, .fresh (LnP n0 0) (LnF W4.heap.size E5 0)), (41, .fresh (LnP n0 0) (LnF W4.heap.size E6 0)), (45, .fresh (LnP N 0) (LnF W4.heap.size E7 0)), (47, .fresh (LnP n0 1) (LnF W4.heap.size L 1)), (49, .fresh (LnP n0 0) (LnF W4.heap.size L 0)), (50, .letter NinP (NinF W4.heap.size [E1, E2, E3, E4, E5, E6, E7, L, L]))] (by kernel_rfl) (by kernel_rfl) (by kernel_rfl) (by rfl) (by simp [apartK] <;> omega) (by simp [startK]) (by repeat (first | (refine List.forall_mem_cons.2 ⟨?_, ?_⟩; (first | exact trivial | exact lnF_stab _ _ _ _ (by simp [boxes, Kind.boxed]) | exact ilF_stab _ _ (by simp [boxes, Kind.boxed]) | exact ninF_stab _ _ _ (by simp [boxes, Kind.boxed]))) | (intro x hx; cases hx; done))) (⟨fun i => if i = 33 then .slice (some ⟨0, 0, none⟩) 1 1 else if i = 50 then .slice (some ⟨0, 0, none⟩) 9 9 else if i = 45 then lineV none N N 0 else if i = 47 then lineV none n0 n0 1 else lineV none n0 n0 0, by repeat (first | (refine List.forall_mem_cons.2 ⟨?_, ?_⟩; (first | exact trivial | exact ⟨none, _, rfl, Nat.le_refl _⟩ | exact ⟨0, rfl⟩)) | (intro x hx; cases hx; done))⟩) (fun β hβ => ?_)
    obtain ⟨Ap0, cp0, ep0, _⟩ := (hβ 7 : LnP n0 0 (β 7))
    obtain ⟨Ap1, cp1, ep1, _⟩ := (hβ 15 : LnP n0 0 (β 15))
    obtain ⟨Ap2, cp2, ep2, _⟩ := (hβ 21 : LnP n0 0 (β 21))
    obtain ⟨Ap3, cp3, ep3, _⟩ := (hβ 27 : LnP n0 0 (β 27))
    obtain ⟨gi, ei⟩ := (hβ 33 : IlP (β 33))
    obtain ⟨Ap4, cp4, ep4, _⟩ := (hβ 34 : LnP n0 0 (β 34))
    obtain ⟨Ap5, cp5, ep5, _⟩ := (hβ 41 : LnP n0 0 (β 41))
    obtain ⟨Ap6, cp6, ep6, _⟩ := (hβ 45 : LnP N 0 (β 45))
    obtain ⟨Ap7, cp7, ep7, _⟩ := (hβ 47 : LnP n0 1 (β 47))
    obtain ⟨Ap8, cp8, ep8, _⟩ := (hβ 49 : LnP n0 0 (β 49))
    obtain ⟨gn, en⟩ := (hβ 50 : NinP (β 50))
    unfold lineV at ep0 ep1 ep2 ep3 ep4 ep5 ep6 ep7 ep8
    repeat (
      refine lex_val (v := ?_) rfl rfl (fun w' hf => ?_) ?_
      rotate_left
      · obtain ⟨⟨a0, a1⟩, b0, b1, b2⟩ := HCc.out w' hf.only; go_simp
        try rfl
      try simp only [Act.put, List.setIfInBounds_toArray, List.set_cons_zero, List.set_cons_succ])
    refine lex_fresh (f := 6) (args := ?_) rfl rfl (fun w' hf => ?_) (fun w' hf => ?_) ?_
    rotate_left
    · go_simp
      try rfl
    · exact ln_rowF hf.only.size HG1.out.symm (by rw [HG1.out]; have := HN2.out; omega) (HIn.out _ _ w' (HRi.out.next hf.only.below0))
    try simp only [Act.put, List.setIfInBounds_toArray, List.set_cons_zero, List.set_cons_succ]
    repeat (
      refine lex_val (v := ?_) rfl rfl (fun w' hf => ?_) ?_
      rotate_left
      · obtain ⟨⟨a0, a1⟩, b0, b1, b2⟩ := HCc.out w' hf.only; go_simp
        try rfl
      try simp only [Act.put, List.setIfInBounds_toArray, List.set_cons_zero, List.set_cons_succ])
    refine lex_fresh (f := 7) (args := ?_) rfl rfl (fun w' hf => ?_) (fun w' hf => ?_) ?_
    rotate_left
    · go_simp
      try rfl
    · exact ln_rowF hf.only.size HG2.out.symm (by rw [HG2.out]; have := HN2.out; omega) (HDe.out _ _ w' (HRi.out.next hf.only.below0))
    try simp only [Act.put, List.setIfInBounds_toArray, List.set_cons_zero, List.set_cons_succ]
    repeat (
      refine lex_val (v := ?_) rfl rfl (fun w' hf => ?_) ?_
      rotate_left
      · obtain ⟨⟨a0, a1⟩, b0, b1, b2⟩ := HCc.out w' hf.only; go_simp
        try rfl
      try simp only [Act.put, List.setIfInBounds_toArray, List.set_cons_zero, List.set_cons_succ])
    refine lex_fresh (f := 8) (args := ?_) rfl rfl (fun w' hf => ?_) (fun w' hf => ?_) ?_
    rotate_left
    · go_simp
      try rfl
    · exact ln_ownF hf.only.size (by omega) HG3.out.symm (HEr.out _ _ w' (HRi.out.next hf.only.below0))
    try simp only [Act.put, List.setIfInBounds_toArray, List.set_cons_zero, List.set_cons_succ]
    repeat (
      refine lex_val (v := ?_) rfl rfl (fun w' hf => ?_) ?_
      rotate_left
      · obtain ⟨⟨a0, a1⟩, b0, b1, b2⟩ := HCc.out w' hf.only; go_simp
        try rfl
      try simp only [Act.put, List.setIfInBounds_toArray, List.set_cons_zero, List.set_cons_succ])
    refine lex_fresh (f := 9) (args := ?_) rfl rfl (fun w' hf => ?_) (fun w' hf => ?_) ?_
    rotate_left
    · go_simp
      try rfl
    · exact ln_ownF hf.only.size (by omega) HG4.out.symm (HCl.out _ _ w' (HRi.out.next hf.only.below0))
    try simp only [Act.put, List.setIfInBounds_toArray, List.set_cons_zero, List.set_cons_succ]
    repeat (
      refine lex_val (v := ?_) rfl rfl (fun w' hf => ?_) ?_
      rotate_left
      · obtain ⟨⟨a0, a1⟩, b0, b1, b2⟩ := HCc.out w' hf.only; go_simp
        try rfl
      try simp only [Act.put, List.setIfInBounds_toArray, List.set_cons_zero, List.set_cons_succ])
    refine lex_made rfl rfl (fun w' hf => ⟨.slice (some ⟨w'.heap.size, 0, none⟩) 1 1, w'.alloc (.cells #[.int .i64 1] 3), ?_, ⟨_, rfl⟩, ⟨w'.heap.size, rfl, hf.only.size, rints_new w' _ [1] _ rfl _ rfl, Blk.new _ _ _⟩, (Below.refl _ _).alloc (Nat.le_refl _) _⟩) ?_
    · go_simp
    try simp only [Act.put, List.setIfInBounds_toArray, List.set_cons_zero, List.set_cons_succ]
    repeat (
      refine lex_val (v := ?_) rfl rfl (fun w' hf => ?_) ?_
      rotate_left
      · obtain ⟨⟨a0, a1⟩, b0, b1, b2⟩ := HCc.out w' hf.only; go_simp
        try rfl
      try simp only [Act.put, List.setIfInBounds_toArray, List.set_cons_zero, List.set_cons_succ])
    refine lex_fresh (f := 10) (args := ?_) rfl rfl (fun w' hf => ?_) (fun w' hf => ?_) ?_
    rotate_left
    · go_simp
      try rfl
    · exact ln_rowF hf.only.size HG5.out.symm (by rw [HG5.out]; have := HN2.out; omega) (HCh.out _ _ _ w' (HRi.out.next hf.only.below0) (HT4.out.next hf.only.below0) (got_il (hf.got 33 _ _ rfl (by kernel_rfl)) ei))
    try simp only [Act.put, List.setIfInBounds_toArray, List.set_cons_zero, List.set_cons_succ]
    repeat (
      refine lex_val (v := ?_) rfl rfl (fun w' hf => ?_) ?_
      rotate_left
      · obtain ⟨⟨a0, a1⟩, b0, b1, b2⟩ := HCc.out w' hf.only; go_simp
        try rfl
      try simp only [Act.put, List.setIfInBounds_toArray, List.set_cons_zero, List.set_cons_succ])
    refine lex_fresh (f := 11) (args := ?_) rfl rfl (fun w' hf => ?_) (fun w' hf => ?_) ?_
    rotate_left
    · go_simp
      try rfl
    · exact ln_rowF hf.only.size HG6.out.symm (by rw [HG6.out]; have := HN2.out; omega) (HLa.out _ _ w' (HRi.out.next hf.only.below0))
    try simp only [Act.put, List.setIfInBounds_toArray, List.set_cons_zero, List.set_cons_succ]
    repeat (
      refine lex_val (v := ?_) rfl rfl (fun w' hf => ?_) ?_
      rotate_left
      · obtain ⟨⟨a0, a1⟩, b0, b1, b2⟩ := HCc.out w' hf.only; go_simp
        try rfl
      try simp only [Act.put, List.setIfInBounds_toArray, List.set_cons_zero, List.set_cons_succ])
    refine lex_fresh (f := 12) (args := ?_) rfl rfl (fun w' hf => ?_) (fun w' hf => ?_) ?_
    rotate_left
    · go_simp
      try rfl
    · exact ln_rowF hf.only.size HG7.out.symm (by rw [HG7.out]; have := HNc.out; omega) (HRe.out _ _ w' (HRi.out.next hf.only.below0))
    try simp only [Act.put, List.setIfInBounds_toArray, List.set_cons_zero, List.set_cons_succ]
    repeat (
      refine lex_val (v := ?_) rfl rfl (fun w' hf => ?_) ?_
      rotate_left
      · obtain ⟨⟨a0, a1⟩, b0, b1, b2⟩ := HCc.out w' hf.only; go_simp
        try rfl
      try simp only [Act.put, List.setIfInBounds_toArray, List.set_cons_zero, List.set_cons_succ])
    refine lex_fresh (f := 13) (args := ?_) rfl rfl (fun w' hf => ?_) (fun w' hf => ?_) ?_
    rotate_left
    · go_simp
      try rfl
    · exact ln_rowF hf.only.size HLn.out.symm (by rw [HLn.out]; have := HN2.out; omega) (HSi.out _ _ w' (HRi.out.next hf.only.below0))
    try simp only [Act.put, List.setIfInBounds_toArray, List.set_cons_zero, List.set_cons_succ]
    repeat (
      refine lex_val (v := ?_) rfl rfl (fun w' hf => ?_) ?_
      rotate_left
      · obtain ⟨⟨a0, a1⟩, b0, b1, b2⟩ := HCc.out w' hf.only; go_simp
        try rfl
      try simp only [Act.put, List.setIfInBounds_toArray, List.set_cons_zero, List.set_cons_succ])
    refine lex_fresh (f := 14) (args := ?_) rfl rfl (fun w' hf => ?_) (fun w' hf => ?_) ?_
    rotate_left
    · go_simp
      try rfl
    · exact ln_rowF hf.only.size HLn.out.symm (by rw [HLn.out]; have := HN2.out; omega) (HCo.out _ _ w' (HRi.out.next hf.only.below0))
    try simp only [Act.put, List.setIfInBounds_toArray, List.set_cons_zero, List.set_cons_succ]
    refine lex_made rfl rfl (fun w' hf => ⟨.slice (some ⟨w'.heap.size, 0, none⟩) 9 9, w'.alloc (.cells #[.slice Ap0 n0 cp0, .int .i64 0, .slice Ap1 n0 cp1, .int .i64 0, .slice Ap2 n0 cp2, .int .i64 0, .slice Ap3 n0 cp3, .int .i64 0, .slice Ap4 n0 cp4, .int .i64 0, .slice Ap5 n0 cp5, .int .i64 0, .slice Ap6 N cp6, .int .i64 0, .slice Ap7 n0 cp7, .int .i64 1, .slice Ap8 n0 cp8, .int .i64 0] 29), ?_, ⟨_, rfl⟩,
      ⟨w'.heap.size, [7, 15, 21, 27, 34, 41, 45, 47, 49].map β, rfl, hf.only.size, rfl, rfl, by simp only [List.map_cons, List.map_nil, ep0, ep1, ep2, ep3, ep4, ep5, ep6, ep7, ep8]; exact Blk.new _ _ _, ?_, hf.apart [7, 15, 21, 27, 34, 41, 45, 47, 49] (by decide) (by kernel_rfl)⟩, (Below.refl _ _).alloc (Nat.le_refl _) _⟩) ?_
    · go_simp
    · have al := (Below.refl w'.heap.size w').alloc (Nat.le_refl _) (.cells #[.slice Ap0 n0 cp0, .int .i64 0, .slice Ap1 n0 cp1, .int .i64 0, .slice Ap2 n0 cp2, .int .i64 0, .slice Ap3 n0 cp3, .int .i64 0, .slice Ap4 n0 cp4, .int .i64 0, .slice Ap5 n0 cp5, .int .i64 0, .slice Ap6 N cp6, .int .i64 0, .slice Ap7 n0 cp7, .int .i64 1, .slice Ap8 n0 cp8, .int .i64 0] 29)
      intro i x K h1 h2
      match i with
      | 0 => obtain rfl := Option.some.inj h1; obtain rfl := Option.some.inj h2; exact ⟨_, lnF_next (hf.got 7 _ _ rfl (by kernel_rfl)) al⟩
      | 1 => obtain rfl := Option.some.inj h1; obtain rfl := Option.some.inj h2; exact ⟨_, lnF_next (hf.got 15 _ _ rfl (by kernel_rfl)) al⟩
      | 2 => obtain rfl := Option.some.inj h1; obtain rfl := Option.some.inj h2; exact ⟨_, lnF_next (hf.got 21 _ _ rfl (by kernel_rfl)) al⟩
      | 3 => obtain rfl := Option.some.inj h1; obtain rfl := Option.some.inj h2; exact ⟨_, lnF_next (hf.got 27 _ _ rfl (by kernel_rfl)) al⟩
      | 4 => obtain rfl := Option.some.inj h1; obtain rfl := Option.some.inj h2; exact ⟨_, lnF_next (hf.got 34 _ _ rfl (by kernel_rfl)) al⟩
      | 5 => obtain rfl := Option.some.inj h1; obtain rfl := Option.some.inj h2; exact ⟨_, lnF_next (hf.got 41 _ _ rfl (by kernel_rfl)) al⟩
      | 6 => obtain rfl := Option.some.inj h1; obtain rfl := Option.some.inj h2; exact ⟨_, lnF_next (hf.got 45 _ _ rfl (by kernel_rfl)) al⟩
      | 7 => obtain rfl := Option.some.inj h1; obtain rfl := Option.some.inj h2; exact ⟨_, lnF_next (hf.got 47 _ _ rfl (by kernel_rfl)) al⟩
      | 8 => obtain rfl := Option.some.inj h1; obtain rfl := Option.some.inj h2; exact ⟨_, lnF_next (hf.got 49 _ _ rfl (by kernel_rfl)) al⟩
      | m + 9 => simp at h1
    try simp only [Act.put, List.setIfInBounds_toArray, List.set_cons_zero, List.set_cons_succ]
    repeat (
      refine lex_val (v := ?_) rfl rfl (fun w' hf => ?_) ?_
      rotate_left
      · go_simp
        try rfl
      try simp only [Act.put, List.setIfInBounds_toArray, List.set_cons_zero, List.set_cons_succ])
    refine lex_nil fun w5 he => ?_
    have hnf : NinF W4.heap.size [E1, E2, E3, E4, E5, E6, E7, L, L] (β 50) w5 := (he.facts 50).2
    have HE5 := Lib.hid he.only.below0
    obtain ⟨gq, vs, eq, hgB, hgl5, hpl, hvl, hat⟩ := hnf.open_
    rw [en] at eq
    injection eq with eq _ _
    injection eq with eq
    injection eq with eq _ _
    subst eq
    clear he hβ hnf ep0 ep1 ep2 ep3 ep4 ep5 ep6 ep7 ep8 ei HIn HDe HEr HCl HCh HLa HRe HSi HCo
    generalize β 50 = l9 at *
    subst en
    go_wp2_with fail
    have hO5 := owns_kept HO4.out HE5.out
    have hG0 : Grow w5 w5 (w2.heap.size + 1) (.slice (some ⟨w2.heap.size + 1, 0, none⟩) 1 1) 1 [.slice (some ⟨g, 0, none⟩) (n0 + 9) (n0 + 9)] := ⟨hO5, grown_of_below (Below.refl _ _), fun G _ hne e => hne (by injection e)⟩
    have HG0 := Lib.hid hG0; have HPl := Lib.hid hpl; have HAt := Lib.hid hat; have HGl := Lib.hid hgl5
    have HGB : Hid (w2.heap.size + 2 ≤ gn ∧ w2.heap.size + 2 ≤ w5.heap.size) := Lib.hid ⟨by have := HZ4.out; omega, by have := HZ4.out; have := HE5.out.size; omega⟩
    clear hO5 hG0 hpl hat hgl5 hgB
    go_loopw [8, 79] (fun lv i wr => ∃ k : Nat, k ≤ 9 ∧ i = .int .i64 k ∧ Grow w5 wr (w2.heap.size + 1) lv (k + 1) (.slice (some ⟨g, 0, none⟩) (n0 + 9) (n0 + 9) :: vs.take k)) (fun _ i _ => 9 - (intOf i).toNat)
    case atStart => exact ⟨0, by omega, rfl, HG0.out⟩
    case round =>
      rename_i lv wr
      obtain ⟨k, hk, rfl, hgw⟩ := hrel
      have HGw := Lib.hid hgw
      clear hgw
      by_cases hlt : k < 9
      · obtain ⟨Ak, ck, zk, Lk, hvk, _, hcell⟩ := HAt.out k hlt
        obtain ⟨c0, c1⟩ := hcell wr (HGw.out.grown.block gn HGl.out (by have := HGB.out.1; intro e; injection e with e; omega))
        have hw : IntKind.i64.wrap ((k : Int) + 1) = (k : Int) + 1 := IntWalk.i64_in _ (by omega)
        have hd : decide ((k : Int) < 9) = true := by simp; omega
        have HTk : Hid (vs.take (k + 1) = vs.take k ++ [.slice Ak Lk.length ck]) := Lib.hid (by rw [List.take_add_one, hvk]; rfl)
        have HGa := Lib.hid (HGw.out.alloc (.cells #[.slice Ak Lk.length ck, .int .i64 zk] 29))
        have hsz : w2.heap.size + 1 ≤ wr.heap.size := by have := HGw.out.grown.size; have := HGB.out.2; omega
        clear hcell hvk
        generalize Lk.length = nk at *
        go_wp2_with (at_builtin; refine wpList_pushA rfl _ _ _ rfl (w2.heap.size + 1) 22 _ 1 24 Tryd.underlying30 info_slc rfl (by decide) _ _ _ rfl HGa.out.own [.slice Ak nk ck] rfl (by simp [Value.oneCell']) _ rfl _ _ _ (by simp) rfl (by unfold maxLen; omega) (by omega) (by simp; omega) ?_; intro v3 w3 hown3 hg3 hb3 hne3)
        go_roundw
        case rel => exact ⟨k + 1, by omega, by first | rfl | go_num, by rw [HTk.out]; exact HGa.out.push hown3 hg3 hne3⟩
        case measure => simp [intOf]; omega
      · obtain rfl : k = 9 := by omega
        obtain ⟨gb, cap, elv, hgb, hgbl⟩ := World.ownsRow.form HGw.out.own (by omega)
        subst elv
        have h9 : vs.take 9 = vs := by rw [List.take_of_length_le (by omega)]
        rw [h9] at HGw
        have hlow : Below (w2.heap.size + 1) w5 wr := (Below.refl _ _).grown HGw.out.grown (by have := HGB.out.2; omega) (fun k hk => by injection hk with e; omega)
        have hlow2 : Below (w2.heap.size + 1) W4 wr := (HE5.out.mono (by have := HZ4.out; omega)).trans hlow
        have hlw : Blk wr w2.heap.size 29 #[.slice (some ⟨g, 0, none⟩) n0 (n0 + 9), .int .i64 0] := Blk.below HL4.out hlow2 (by omega)
        have hsw : Blk wr w.heap.size 24 #[.int .i64 f, .int .i64 t, .int .i64 q] := Blk.below HS4.out hlow2 (by have := HGg.out; omega)
        have hrw : Row wr g (spareL L) := Blk.below HRow4.out hlow2 (by have := HGg.out; omega)
        have hplw : PL wr W4.heap.size vs [E1, E2, E3, E4, E5, E6, E7, L, L] := HPl.out.kept (fun i v k hv hk => HGw.out.grown.block k (HPl.out.sized hv hk).2 (by have := (HPl.out.sized hv hk).1; have := HZ4.out; intro e; injection e with e; omega))
        have hri : RCells wr (some ⟨g, 0, none⟩) L := by have := (Row.reads hrw).take L.length; rw [spare_take] at this; exact this
        have HRi2 := Lib.hid hri; have HRw := Lib.hid hrw; have HPlw := Lib.hid hplw
        have HBw : Hid (Below w.heap.size w wr) := Lib.hid (HB4.out.trans (hlow2.mono (by have := HGg.out; omega)))
        have HCc2 : Hid (∀ w', Only [gb] wr w' → (w'.cell? ⟨w2.heap.size, 0, none⟩ = some (.slice (some ⟨g, 0, none⟩) n0 (n0 + 9)) ∧ w'.cell? ⟨w2.heap.size, 1, none⟩ = some (.int .i64 0)) ∧ w'.cell? ⟨w.heap.size, 0, none⟩ = some (.int .i64 f) ∧ w'.cell? ⟨w.heap.size, 1, none⟩ = some (.int .i64 t) ∧ w'.cell? ⟨w.heap.size, 2, none⟩ = some (.int .i64 q)) := Lib.hid (fun w' h => ⟨⟨(h.blk hlw (by simp; omega)).cell 0, (h.blk hlw (by simp; omega)).cell 1⟩, (h.blk hsw (by have := HGg.out; simp; omega)).cell 0, (h.blk hsw (by have := HGg.out; simp; omega)).cell 1, (h.blk hsw (by have := HGg.out; simp; omega)).cell 2⟩)
        have hsz5 : w5.heap.size ≤ wr.heap.size := HGw.out.grown.size
        have HGbS : Hid (w2.heap.size + 1 ≤ gb ∧ gb < wr.heap.size ∧ w2.heap.size + 2 ≤ wr.heap.size ∧ W4.heap.size ≤ wr.heap.size) := Lib.hid ⟨hgb, hgbl, by have := HGB.out.2; omega, by have := HE5.out.size; omega⟩
        have HFr : Hid (∀ w', Only [gb] wr w' → RCells w' (some ⟨g, 0, none⟩) L) := Lib.hid (fun w' h => by
          have := (Row.reads (show Row w' g (spareL L) from h.blk HRw.out (by have := HGg.out; have := HGbS.out.1; simp; omega))).take L.length; rw [spare_take] at this; exact this)
        have HNg : Hid (∀ k, k < 9 → True) := Lib.hid (fun _ _ => trivial)
        obtain ⟨i0, hi0, hz0, hz1, hz2⟩ := info_parts info_slc
        have HI := Lib.hid (And.intro hi0 (And.intro hz0 (And.intro hz1 hz2)))
        clear hlow hlow2 hlw hsw hrw hplw hri hgb hgbl hi0 hz0 hz1 hz2 h9 hsz5
        go_wp2_with fail
        refine wp_region_mix_lit (by kernel_rfl) [(6, .fresh (CtP mc) (CtF wr.heap.size E8)), (12, .fresh (CtP mc) (CtF wr.heap.size E8)), (13, .letter TwP (TwF wr.heap.size E8)), (14, .grow gb (ApP 12) (ApF wr.heap.size (w2.heap.size + 1) gb 12 (.slice (some ⟨g, 0, none⟩) (n0 + 9) (n0 + 9) :: vs) E8))] (by kernel_rfl) (by kernel_rfl) (by kernel_rfl) (by rfl) (by simp [apartK] <;> omega) (by simp [startK]; exact HGbS.out.2.1) (by repeat (first | (refine List.forall_mem_cons.2 ⟨?_, ?_⟩; (first | exact trivial | exact ctF_stab _ _ _ (by simp [boxes, Kind.boxed]) | exact twF_stab _ _ _ (by simp [boxes, Kind.boxed]) | exact apF_stab _ _ _ _ _ _ _ (by simp [boxes, Kind.boxed]))) | (intro x hx; cases hx; done))) (⟨fun i => if i = 13 then .slice (some ⟨0, 0, none⟩) 2 2 else if i = 14 then .slice (some ⟨0, 0, none⟩) 12 0 else .slice (some ⟨0, 0, none⟩) mc mc, by repeat (first | (refine List.forall_mem_cons.2 ⟨?_, ?_⟩; (first | exact trivial | exact ⟨0, rfl⟩ | exact ⟨0, 0, rfl⟩)) | (intro x hx; cases hx; done))⟩) (fun β hβ => ?_)
        obtain ⟨q1, eq1⟩ := (hβ 6 : CtP mc (β 6))
        obtain ⟨q2, eq2⟩ := (hβ 12 : CtP mc (β 12))
        obtain ⟨q3, eq3⟩ := (hβ 13 : TwP (β 13))
        repeat (
          refine lex_val (v := ?_) rfl rfl (fun w' hf => ?_) ?_
          rotate_left
          · obtain ⟨⟨a0, a1⟩, b0, b1, b2⟩ := HCc2.out w' hf.only; go_simp
            try rfl
          try simp only [Act.put, List.setIfInBounds_toArray, List.set_cons_zero, List.set_cons_succ])
        refine lex_fresh (f := 15) (args := ?_) rfl rfl (fun w' hf => ?_) (fun w' hf => ?_) ?_
        rotate_left
        · go_simp
          try rfl
        · exact ct_cut hf.only.size HG8.out (HCu.out _ _ (by omega) w' (HFr.out w' hf.only))
        try simp only [Act.put, List.setIfInBounds_toArray, List.set_cons_zero, List.set_cons_succ]
        repeat (
          refine lex_val (v := ?_) rfl rfl (fun w' hf => ?_) ?_
          rotate_left
          · obtain ⟨⟨a0, a1⟩, b0, b1, b2⟩ := HCc2.out w' hf.only; go_simp
            try rfl
          try simp only [Act.put, List.setIfInBounds_toArray, List.set_cons_zero, List.set_cons_succ])
        refine lex_fresh (f := 15) (args := ?_) rfl rfl (fun w' hf => ?_) (fun w' hf => ?_) ?_
        rotate_left
        · go_simp
          try rfl
        · exact ct_cut hf.only.size HG8.out (HCu.out _ _ (by omega) w' (HFr.out w' hf.only))
        try simp only [Act.put, List.setIfInBounds_toArray, List.set_cons_zero, List.set_cons_succ]
        refine lex_made rfl rfl (fun w' hf => ⟨.slice (some ⟨w'.heap.size, 0, none⟩) 2 2, w'.alloc (.cells #[.slice (some ⟨q1, 0, none⟩) mc mc, .slice (some ⟨q2, 0, none⟩) mc mc] 22), ?_, ⟨_, rfl⟩, ⟨w'.heap.size, β 6, β 12, rfl, hf.only.size, by rw [eq1, eq2]; exact Blk.new _ _ _, CtF.next (hf.got 6 _ _ rfl (by kernel_rfl)) ((Below.refl _ _).alloc (Nat.le_refl _) _), CtF.next (hf.got 12 _ _ rfl (by kernel_rfl)) ((Below.refl _ _).alloc (Nat.le_refl _) _), hf.ne 6 12 rfl rfl (by decide) (by kernel_rfl) (by kernel_rfl)⟩, (Below.refl _ _).alloc (Nat.le_refl _) _⟩) ?_
        · go_simp
        try simp only [Act.put, List.setIfInBounds_toArray, List.set_cons_zero, List.set_cons_succ]
        refine lex_grow (b := gb) rfl rfl (fun w' hf => ?_) ?_
        · obtain ⟨g3, u1, u2, e3, hB3, hb3, hc1, hc2, hn12⟩ := hf.got 13 _ _ rfl (by kernel_rfl)
          rw [eq3] at e3
          injection e3 with e3 _ _
          injection e3 with e3
          injection e3 with e3 _ _
          subst e3
          have hgs := hf.grew 14 gb _ _ rfl (.inl rfl)
          have how := owns_same (w' := w') HGw.out.own (fun k hk => by
            have e : gb = k := Option.some.inj hk
            rw [← e]; exact hgs)
          obtain ⟨gg, cc, w6, hrun, ho6, hg6, hor, hlt6⟩ := run_append_lies (P := Tryd.prog) w' 30 30 (w2.heap.size + 1) 22 i0 _ 1 24 Tryd.underlying30 HI.out.1 HI.out.2.1 HI.out.2.2.1 HI.out.2.2.2 rfl (by decide) _ 10 _ how ⟨q3, 0, none⟩ 2 2 [u1, u2] rfl (fun j u hj => by
            rw [add_cell, hb3.cell, ← Array.getElem?_toList]; exact hj) (by
            obtain ⟨_, ee1, _⟩ := hc1; obtain ⟨_, ee2, _⟩ := hc2
            rw [ee1, ee2]; simp [Value.oneCell']) (by decide) (by unfold maxLen; omega) (by omega) (by have := hf.only.size; have := HGbS.out; omega) w'.heap.size rfl
          have hb6 : ∀ {u : Value}, CtF wr.heap.size E8 u w' → CtF wr.heap.size E8 u w6 := by
            rintro u ⟨gx, ex, hBx, hrx⟩
            exact ⟨gx, ex, hBx, Blk.grown hrx hg6 (fun e => by have e' : gx = gb := Option.some.inj e; have := HGbS.out.2.1; omega)⟩
          refine ⟨_, w6, exec_append (.tmp 89) (.tmp 102) 30 rfl rfl eq3 hrun, ⟨gg, cc, rfl⟩, ⟨u1, u2, ho6, hb6 hc1, hb6 hc2, hn12, fun G hG hne e => ?_, fun k hk => ?_⟩, by simpa [Value.ownBlock] using hg6⟩
          · have e' : G = gg := Option.some.inj e
            rcases hor with e2 | e2
            · have : gb = gg := Option.some.inj e2
              omega
            · have := hf.only.size; omega
          · have e' : gg = k := Option.some.inj hk
            subst e'
            have hin : ∀ {u : Value}, CtF wr.heap.size E8 u w' → gg ∉ blksOf u := by
              rintro u ⟨gx, ex, hBx, hrx⟩ hm
              rw [ex] at hm
              have e4 : gg = gx := by simpa [blksOf, sliceBlk] using hm
              have := Row.lt hrx
              rcases hor with e2 | e2
              · have : gb = gg := Option.some.inj e2
                have := HGbS.out.2.1
                omega
              · omega
            exact ⟨hin hc1, hin hc2⟩
        try simp only [Act.put, List.setIfInBounds_toArray, List.set_cons_zero, List.set_cons_succ]
        repeat (
          refine lex_val (v := ?_) rfl rfl (fun w' hf => ?_) ?_
          rotate_left
          · go_simp
            try rfl
          try simp only [Act.put, List.setIfInBounds_toArray, List.set_cons_zero, List.set_cons_succ])
        refine lex_nil fun w6 he => ?_
        obtain ⟨u1, u2, hap, hc1, hc2, hn12, hfar, hin⟩ := (he.facts 14).2
        have hon := he.only
        obtain ⟨gu, cu, eu⟩ := (he.facts 14).1
        have hlow6 : Below (w2.heap.size + 1) wr w6 := hon.below (B := w2.heap.size + 1) (by have := HGbS.out; omega) (fun k hk => by have e : k = gb := (by simpa [stores, Kind.at_] using hk); have := HGbS.out; omega)
        have hbw6 : Below w.heap.size w w6 := HBw.out.trans (hlow6.mono (by have := HGg.out; omega))
        have hrw6 : Row w6 g (spareL L) := Blk.below HRw.out hlow6 (by have := HGg.out; omega)
        have hpl6 : PL w6 W4.heap.size vs [E1, E2, E3, E4, E5, E6, E7, L, L] := HPlw.out.kept (fun i v k hv hk => hon.block k (HPlw.out.sized hv hk).2 (fun hm => by
          have e : k = gb := by simpa [stores, Kind.at_] using hm
          exact HGw.out.far k (HPl.out.sized hv hk).2 (by have := (HPl.out.sized hv hk).1; have := HZ4.out; omega) (by rw [e]; rfl)))
        rw [eu] at hap hfar hin
        generalize β 14 = b14 at *
        subst eu
        clear he hβ eq1 eq2 eq3 HCc2 HFr
        obtain ⟨p1, ep1, hp1, hrp1⟩ := hc1
        obtain ⟨p2, ep2, hp2, hrp2⟩ := hc2
        have hne12 : p1 ≠ p2 := fun e => hn12 p1 (by rw [ep1]; simp [blksOf, sliceBlk]) (by rw [ep2, e]; simp [blksOf, sliceBlk])
        have hal : OCells w6 w.heap.size (.slice (some ⟨g, 0, none⟩) (spareL L).length (spareL L).length) (spareL L) := ocells_mono (ocells_row (by rw [HSl.out]; have := HN2.out; omega) hrw6) HGg.out.1
        rw [HSl.out] at hal
        have ho1 : OCells w6 w.heap.size u1 E8 := by rw [ep1]; exact ocells_mono (ocells_row (by rw [HG8.out]; have := HMc.out; have := HN2.out; omega) hrp1) (by have := HBw.out.size; omega)
        have ho2 : OCells w6 w.heap.size u2 E8 := by rw [ep2]; exact ocells_mono (ocells_row (by rw [HG8.out]; have := HMc.out; have := HN2.out; omega) hrp2) (by have := HBw.out.size; omega)
        have hpl1 := PL.cons (hpl6.mono (by have := HZ4.out; have := HGg.out; omega : w.heap.size ≤ W4.heap.size)) hal (fun i u k hu hk e => by
          have e' : g = k := Option.some.inj e
          have := (HPl.out.sized hu hk).1; have := HGg.out; have := HZ4.out; omega)
        have hold : ∀ (i : Nat) (u : Value) (k : Nat), (Value.slice (some ⟨g, 0, none⟩) (n0 + 9) (n0 + 9) :: vs)[i]? = some u → u.ownBlock = some k → k < wr.heap.size ∧ (k = g ∨ W4.heap.size ≤ k) := by
          intro i u k hu hk
          cases i with
          | zero =>
            obtain rfl := Option.some.inj hu
            have e' : g = k := Option.some.inj hk
            subst e'
            exact ⟨Row.lt HRw.out, .inl rfl⟩
          | succ i =>
            have h := HPlw.out.sized (show vs[i]? = some u by simpa using hu) hk
            exact ⟨h.2, .inr h.1⟩
        have hpl2 := PL.snoc hpl1 ho1 (fun i u k hu hk e => by
          rw [ep1] at e
          have e' : p1 = k := Option.some.inj e
          have := (hold i u k hu hk).1; omega)
        have hpl3 := PL.snoc hpl2 ho2 (fun i u k hu hk e => by
          rw [ep2] at e
          have e' : p2 = k := Option.some.inj e
          rcases Nat.lt_or_ge i (Value.slice (some ⟨g, 0, none⟩) (n0 + 9) (n0 + 9) :: vs).length with hi | hi
          · rw [List.getElem?_append_left hi] at hu
            have := (hold i u k hu hk).1; omega
          · have hi2 := (List.getElem?_eq_some_iff.1 hu).1
            rw [List.length_append, List.length_singleton] at hi2
            obtain rfl : i = (Value.slice (some ⟨g, 0, none⟩) (n0 + 9) (n0 + 9) :: vs).length := by omega
            rw [List.getElem?_append_right (Nat.le_refl _), Nat.sub_self] at hu
            obtain rfl := Option.some.inj hu
            rw [ep1] at hk
            have e2 : p1 = k := Option.some.inj hk
            exact hne12 (e2.trans e'.symm))
        rw [List.append_assoc] at hpl3
        have hvl12 : (Value.slice (some ⟨g, 0, none⟩) (n0 + 9) (n0 + 9) :: vs ++ ([u1] ++ [u2])).length = 12 := by simp [hvl]
        have hls := PL.ls (A := some ⟨gu, 0, none⟩) (c := cu) (bo := w2.heap.size + 1) hpl3 (by rw [hvl12]; exact hap) (fun i v k hv hk e => by
          have e' : gu = k := (Option.some.inj e).symm
          subst e'
          rcases Nat.lt_or_ge i (Value.slice (some ⟨g, 0, none⟩) (n0 + 9) (n0 + 9) :: vs).length with hi | hi
          · rw [List.getElem?_append_left hi] at hv
            obtain ⟨h1, h2⟩ := hold i v gu hv hk
            by_cases e3 : gu = gb
            · rcases h2 with h2 | h2
              · have := HGbS.out; have := HGg.out; omega
              · cases i with
                | zero =>
                  obtain rfl := Option.some.inj hv
                  have e4 : g = gu := Option.some.inj hk
                  have := HGg.out; have := HZ4.out; omega
                | succ i =>
                  exact HGw.out.far gu (HPl.out.sized (show vs[i]? = some v by simpa using hv) hk).2 (by have := HZ4.out; omega) (by rw [e3]; rfl)
            · exact hfar gu h1 e3 rfl
          · have hi2 := (List.getElem?_eq_some_iff.1 hv).1
            rw [List.getElem?_append_right hi] at hv
            have hm := List.mem_of_getElem? hv
            obtain ⟨n1, n2⟩ := hin gu rfl
            simp only [List.cons_append, List.nil_append, List.mem_cons, List.not_mem_nil, or_false] at hm
            rcases hm with rfl | rfl
            · rw [ep1] at hk n1
              have e4 : p1 = gu := Option.some.inj hk
              exact n1 (by rw [e4]; simp [blksOf, sliceBlk])
            · rw [ep2] at hk n2
              have e4 : p2 = gu := Option.some.inj hk
              exact n2 (by rw [e4]; simp [blksOf, sliceBlk]))
        have HLs := Lib.hid hls; have HB6 := Lib.hid hbw6; have HRw6 := Lib.hid hrw6
        have HAp := Lib.hid (fun W h1 h2 => apart_any (some ⟨gu, 0, none⟩) cu w.heap.size (Value.slice (some ⟨g, 0, none⟩) (n0 + 9) (n0 + 9) :: vs ++ ([u1] ++ [u2])) (spareL L :: [E1, E2, E3, E4, E5, E6, E7, L, L] ++ ([E8] ++ [E8])) (by rw [hvl12]; omega) (fun K hK => by
          have := HSl.out; have := HG1.out; have := HG2.out; have := HG3.out; have := HG4.out; have := HG5.out; have := HG6.out; have := HG7.out; have := HG8.out; have := HLn.out; have := HN2.out; have := HNc.out; have := HMc.out
          simp only [List.cons_append, List.nil_append, List.mem_cons, List.not_mem_nil, or_false] at hK
          rcases hK with rfl | rfl | rfl | rfl | rfl | rfl | rfl | rfl | rfl | rfl | rfl | rfl <;> omega) W h1 h2)
        rw [hvl12] at HAp
        have HRl := Lib.hid (HR.out.next hbw6)
        clear hls hbw6 hrw6 hpl1 hpl2 hpl3 hold ho1 ho2 hal hpl6 hlow6 hon hap hfar hin hn12 hne12 hrp1 hrp2 hp1 hp2 ep1 ep2 hvl12
        go_wp2_with fail
        refine (HKe.out _ _ _ (Row.reads HRw6.out) HRl.out).mono ?_
        rintro e w7 ⟨rfl, hb7⟩
        have HLs7 := Lib.hid (HLs.out.next hb7); have HB7 := Lib.hid (HB6.out.trans (hb7.mono HB6.out.size))
        clear hb7
        go_wp2_with fail
        refine (HAp.out _ HB7.out.size HLs7.out).mono ?_
        rintro e w8 ⟨rfl, hb8⟩
        have hfin : Below w.heap.size w w8 := HB7.out.trans hb8
        clear hb8
        go_wp2_with fail
        go_ret
        exact ⟨rfl, hfin⟩
  · go_enter Tryd.func3, Tryd.ntmps3
    go_wp2_with fail
    refine (HAw.out _).mono ?_
    rintro e w1 ⟨rfl, hb1⟩
    have HS1 := Lib.hid ((Blk.new w 24 #[.int .i64 f, .int .i64 t, .int .i64 q]).next hb1)
    have HB1 := Lib.hid (((Below.refl w.heap.size w).alloc (Nat.le_refl _) (.cells #[.int .i64 f, .int .i64 t, .int .i64 q] 24)).trans (hb1.mono (by simp)))
    clear hb1
    go_wp2_with fail
    refine (HSp.out _ (HR.out.next HB1.out)).mono ?_
    rintro e w2 ⟨g, hg, rfl, hrow, hb2⟩
    have HGg : Hid (w.heap.size ≤ g ∧ g < w2.heap.size) := Lib.hid ⟨Nat.le_trans HB1.out.size hg, Row.lt hrow⟩
    have HS2 := Lib.hid (HS1.out.next hb2); have HB2 := Lib.hid (HB1.out.trans (hb2.mono HB1.out.size)); have HRow2 := Lib.hid hrow
    clear hb2 hrow hg
    go_upto_region 8 with fail
    refine world_genL (fun X => Blk X w2.heap.size 29 #[.slice (some ⟨g, 0, none⟩) 200 (200 + 9), .int .i64 0] ∧ Blk X w.heap.size 24 #[.int .i64 f, .int .i64 t, .int .i64 q] ∧ Row X g (spareL L) ∧ X.ownsRow (w2.heap.size + 1) 22 1 (.slice (some ⟨w2.heap.size + 1, 0, none⟩) 1 1) 1 [.slice (some ⟨g, 0, none⟩) (200 + 9) (200 + 9)] ∧ Below w.heap.size w X ∧ w2.heap.size + 2 = X.heap.size)
      ⟨(Blk.new w2 _ _).alloc _, (HS2.out.alloc _).alloc _, (Blk.alloc HRow2.out _).alloc _, new_lists w2 _ _, (HB2.out.alloc HB2.out.size _).alloc (by have := HB2.out.size; simp; omega) _, by simp⟩ ?_
    intro W4 ⟨hl4, hs4, hr4, ho4, hb4, hz4⟩
    have HRow4 := Lib.hid hr4; have HO4 := Lib.hid ho4; have HB4 := Lib.hid hb4; have HZ4 := Lib.hid hz4
    have hri : RCells W4 (some ⟨g, 0, none⟩) L := by have := (Row.reads hr4).take L.length; rw [spare_take] at this; exact this
    have HRi := Lib.hid hri
    have HT4 := Lib.hid (HT.out.next hb4)
    have HCc : Hid (∀ w', Only [] W4 w' → (w'.cell? ⟨w2.heap.size, 0, none⟩ = some (.slice (some ⟨g, 0, none⟩) 200 (200 + 9)) ∧ w'.cell? ⟨w2.heap.size, 1, none⟩ = some (.int .i64 0)) ∧ w'.cell? ⟨w.heap.size, 0, none⟩ = some (.int .i64 f) ∧ w'.cell? ⟨w.heap.size, 1, none⟩ = some (.int .i64 t) ∧ w'.cell? ⟨w.heap.size, 2, none⟩ = some (.int .i64 q)) := Lib.hid (fun w' h => ⟨⟨(hl4.next h.below0).cell 0, (hl4.next h.below0).cell 1⟩, (hs4.next h.below0).cell 0, (hs4.next h.below0).cell 1, (hs4.next h.below0).cell 2⟩)
    have HS4 := Lib.hid hs4; have HL4 := Lib.hid hl4
    clear hl4 hs4 hr4 ho4 hb4 hz4 hri HS2 HRow2 HB2 HB1 HS1
    refine wp_region_mix_lit (by kernel_rfl) [(7, .fresh (LnP 200 0) (LnF W4.heap.size E1 0)), (15, .fresh (LnP 200 0) (LnF W4.heap.size E2 0)), (21, .fresh (LnP 200 0) (LnF W4.heap.size E3 0)), (27, .fresh (LnP 200 0) (LnF W4.heap.size E4 0)), (33, .letter IlP (IlF W4.heap.size)), (34, .fresh (LnP 200 0) (LnF W4.heap.size E5 0)), (41, .fresh (LnP 200 0) (LnF W4.heap.size E6 0)), (45, .fresh (LnP N 0) (LnF W4.heap.size E7 0)), (47, .fresh (LnP 200 1) (LnF W4.heap.size L 1)), (49, .fresh (LnP 200 0) (LnF W4.heap.size L 0)), (50, .letter NinP (NinF W4.heap.size [E1, E2, E3, E4, E5, E6, E7, L, L]))] (by kernel_rfl) (by kernel_rfl) (by kernel_rfl) (by rfl) (by simp [apartK] <;> omega) (by simp [startK]) (by repeat (first | (refine List.forall_mem_cons.2 ⟨?_, ?_⟩; (first | exact trivial | exact lnF_stab _ _ _ _ (by simp [boxes, Kind.boxed]) | exact ilF_stab _ _ (by simp [boxes, Kind.boxed]) | exact ninF_stab _ _ _ (by simp [boxes, Kind.boxed]))) | (intro x hx; cases hx; done))) (⟨fun i => if i = 33 then .slice (some ⟨0, 0, none⟩) 1 1 else if i = 50 then .slice (some ⟨0, 0, none⟩) 9 9 else if i = 45 then lineV none N N 0 else if i = 47 then lineV none 200 200 1 else lineV none 200 200 0, by repeat (first | (refine List.forall_mem_cons.2 ⟨?_, ?_⟩; (first | exact trivial | exact ⟨none, _, rfl, Nat.le_refl _⟩ | exact ⟨0, rfl⟩)) | (intro x hx; cases hx; done))⟩) (fun β hβ => ?_)
    obtain ⟨Ap0, cp0, ep0, _⟩ := (hβ 7 : LnP 200 0 (β 7))
    obtain ⟨Ap1, cp1, ep1, _⟩ := (hβ 15 : LnP 200 0 (β 15))
    obtain ⟨Ap2, cp2, ep2, _⟩ := (hβ 21 : LnP 200 0 (β 21))
    obtain ⟨Ap3, cp3, ep3, _⟩ := (hβ 27 : LnP 200 0 (β 27))
    obtain ⟨gi, ei⟩ := (hβ 33 : IlP (β 33))
    obtain ⟨Ap4, cp4, ep4, _⟩ := (hβ 34 : LnP 200 0 (β 34))
    obtain ⟨Ap5, cp5, ep5, _⟩ := (hβ 41 : LnP 200 0 (β 41))
    obtain ⟨Ap6, cp6, ep6, _⟩ := (hβ 45 : LnP N 0 (β 45))
    obtain ⟨Ap7, cp7, ep7, _⟩ := (hβ 47 : LnP 200 1 (β 47))
    obtain ⟨Ap8, cp8, ep8, _⟩ := (hβ 49 : LnP 200 0 (β 49))
    obtain ⟨gn, en⟩ := (hβ 50 : NinP (β 50))
    unfold lineV at ep0 ep1 ep2 ep3 ep4 ep5 ep6 ep7 ep8
    repeat (
      refine lex_val (v := ?_) rfl rfl (fun w' hf => ?_) ?_
      rotate_left
      · obtain ⟨⟨a0, a1⟩, b0, b1, b2⟩ := HCc.out w' hf.only; go_simp
        try rfl
      try simp only [Act.put, List.setIfInBounds_toArray, List.set_cons_zero, List.set_cons_succ])
    refine lex_fresh (f := 6) (args := ?_) rfl rfl (fun w' hf => ?_) (fun w' hf => ?_) ?_
    rotate_left
    · go_simp
      try rfl
    · exact ln_rowF hf.only.size HG1.out.symm (by rw [HG1.out]; have := HN2.out; omega) (HIn.out _ _ w' (HRi.out.next hf.only.below0))
    try simp only [Act.put, List.setIfInBounds_toArray, List.set_cons_zero, List.set_cons_succ]
    repeat (
      refine lex_val (v := ?_) rfl rfl (fun w' hf => ?_) ?_
      rotate_left
      · obtain ⟨⟨a0, a1⟩, b0, b1, b2⟩ := HCc.out w' hf.only; go_simp
        try rfl
      try simp only [Act.put, List.setIfInBounds_toArray, List.set_cons_zero, List.set_cons_succ])
    refine lex_fresh (f := 7) (args := ?_) rfl rfl (fun w' hf => ?_) (fun w' hf => ?_) ?_
    rotate_left
    · go_simp
      try rfl
    · exact ln_rowF hf.only.size HG2.out.symm (by rw [HG2.out]; have := HN2.out; omega) (HDe.out _ _ w' (HRi.out.next hf.only.below0))
    try simp only [Act.put, List.setIfInBounds_toArray, List.set_cons_zero, List.set_cons_succ]
    repeat (
      refine lex_val (v := ?_) rfl rfl (fun w' hf => ?_) ?_
      rotate_left
      · obtain ⟨⟨a0, a1⟩, b0, b1, b2⟩ := HCc.out w' hf.only; go_simp
        try rfl
      try simp only [Act.put, List.setIfInBounds_toArray, List.set_cons_zero, List.set_cons_succ])
    refine lex_fresh (f := 8) (args := ?_) rfl rfl (fun w' hf => ?_) (fun w' hf => ?_) ?_
    rotate_left
    · go_simp
      try rfl
    · exact ln_ownF hf.only.size (by omega) HG3.out.symm (HEr.out _ _ w' (HRi.out.next hf.only.below0))
    try simp only [Act.put, List.setIfInBounds_toArray, List.set_cons_zero, List.set_cons_succ]
    repeat (
      refine lex_val (v := ?_) rfl rfl (fun w' hf => ?_) ?_
      rotate_left
      · obtain ⟨⟨a0, a1⟩, b0, b1, b2⟩ := HCc.out w' hf.only; go_simp
        try rfl
      try simp only [Act.put, List.setIfInBounds_toArray, List.set_cons_zero, List.set_cons_succ])
    refine lex_fresh (f := 9) (args := ?_) rfl rfl (fun w' hf => ?_) (fun w' hf => ?_) ?_
    rotate_left
    · go_simp
      try rfl
    · exact ln_ownF hf.only.size (by omega) HG4.out.symm (HCl.out _ _ w' (HRi.out.next hf.only.below0))
    try simp only [Act.put, List.setIfInBounds_toArray, List.set_cons_zero, List.set_cons_succ]
    repeat (
      refine lex_val (v := ?_) rfl rfl (fun w' hf => ?_) ?_
      rotate_left
      · obtain ⟨⟨a0, a1⟩, b0, b1, b2⟩ := HCc.out w' hf.only; go_simp
        try rfl
      try simp only [Act.put, List.setIfInBounds_toArray, List.set_cons_zero, List.set_cons_succ])
    refine lex_made rfl rfl (fun w' hf => ⟨.slice (some ⟨w'.heap.size, 0, none⟩) 1 1, w'.alloc (.cells #[.int .i64 1] 3), ?_, ⟨_, rfl⟩, ⟨w'.heap.size, rfl, hf.only.size, rints_new w' _ [1] _ rfl _ rfl, Blk.new _ _ _⟩, (Below.refl _ _).alloc (Nat.le_refl _) _⟩) ?_
    · go_simp
    try simp only [Act.put, List.setIfInBounds_toArray, List.set_cons_zero, List.set_cons_succ]
    repeat (
      refine lex_val (v := ?_) rfl rfl (fun w' hf => ?_) ?_
      rotate_left
      · obtain ⟨⟨a0, a1⟩, b0, b1, b2⟩ := HCc.out w' hf.only; go_simp
        try rfl
      try simp only [Act.put, List.setIfInBounds_toArray, List.set_cons_zero, List.set_cons_succ])
    refine lex_fresh (f := 10) (args := ?_) rfl rfl (fun w' hf => ?_) (fun w' hf => ?_) ?_
    rotate_left
    · go_simp
      try rfl
    · exact ln_rowF hf.only.size HG5.out.symm (by rw [HG5.out]; have := HN2.out; omega) (HCh.out _ _ _ w' (HRi.out.next hf.only.below0) (HT4.out.next hf.only.below0) (got_il (hf.got 33 _ _ rfl (by kernel_rfl)) ei))
    try simp only [Act.put, List.setIfInBounds_toArray, List.set_cons_zero, List.set_cons_succ]
    repeat (
      refine lex_val (v := ?_) rfl rfl (fun w' hf => ?_) ?_
      rotate_left
      · obtain ⟨⟨a0, a1⟩, b0, b1, b2⟩ := HCc.out w' hf.only; go_simp
        try rfl
      try simp only [Act.put, List.setIfInBounds_toArray, List.set_cons_zero, List.set_cons_succ])
    refine lex_fresh (f := 11) (args := ?_) rfl rfl (fun w' hf => ?_) (fun w' hf => ?_) ?_
    rotate_left
    · go_simp
      try rfl
    · exact ln_rowF hf.only.size HG6.out.symm (by rw [HG6.out]; have := HN2.out; omega) (HLa.out _ _ w' (HRi.out.next hf.only.below0))
    try simp only [Act.put, List.setIfInBounds_toArray, List.set_cons_zero, List.set_cons_succ]
    repeat (
      refine lex_val (v := ?_) rfl rfl (fun w' hf => ?_) ?_
      rotate_left
      · obtain ⟨⟨a0, a1⟩, b0, b1, b2⟩ := HCc.out w' hf.only; go_simp
        try rfl
      try simp only [Act.put, List.setIfInBounds_toArray, List.set_cons_zero, List.set_cons_succ])
    refine lex_fresh (f := 12) (args := ?_) rfl rfl (fun w' hf => ?_) (fun w' hf => ?_) ?_
    rotate_left
    · go_simp
      try rfl
    · exact ln_rowF hf.only.size HG7.out.symm (by rw [HG7.out]; have := HNc.out; omega) (HRe.out _ _ w' (HRi.out.next hf.only.below0))
    try simp only [Act.put, List.setIfInBounds_toArray, List.set_cons_zero, List.set_cons_succ]
    repeat (
      refine lex_val (v := ?_) rfl rfl (fun w' hf => ?_) ?_
      rotate_left
      · obtain ⟨⟨a0, a1⟩, b0, b1, b2⟩ := HCc.out w' hf.only; go_simp
        try rfl
      try simp only [Act.put, List.setIfInBounds_toArray, List.set_cons_zero, List.set_cons_succ])
    refine lex_fresh (f := 13) (args := ?_) rfl rfl (fun w' hf => ?_) (fun w' hf => ?_) ?_
    rotate_left
    · go_simp
      try rfl
    · exact ln_rowF hf.only.size HLn.out.symm (by rw [HLn.out]; have := HN2.out; omega) (HSi.out _ _ w' (HRi.out.next hf.only.below0))
    try simp only [Act.put, List.setIfInBounds_toArray, List.set_cons_zero, List.set_cons_succ]
    repeat (
      refine lex_val (v := ?_) rfl rfl (fun w' hf => ?_) ?_
      rotate_left
      · obtain ⟨⟨a0, a1⟩, b0, b1, b2⟩ := HCc.out w' hf.only; go_simp
        try rfl
      try simp only [Act.put, List.setIfInBounds_toArray, List.set_cons_zero, List.set_cons_succ])
    refine lex_fresh (f := 14) (args := ?_) rfl rfl (fun w' hf => ?_) (fun w' hf => ?_) ?_
    rotate_left
    · go_simp
      try rfl
    · exact ln_rowF hf.only.size HLn.out.symm (by rw [HLn.out]; have := HN2.out; omega) (HCo.out _ _ w' (HRi.out.next hf.only.below0))
    try simp only [Act.put, List.setIfInBounds_toArray, List.set_cons_zero, List.set_cons_succ]
    refine lex_made rfl rfl (fun w' hf => ⟨.slice (some ⟨w'.heap.size, 0, none⟩) 9 9, w'.alloc (.cells #[.slice Ap0 200 cp0, .int .i64 0, .slice Ap1 200 cp1, .int .i64 0, .slice Ap2 200 cp2, .int .i64 0, .slice Ap3 200 cp3, .int .i64 0, .slice Ap4 200 cp4, .int .i64 0, .slice Ap5 200 cp5, .int .i64 0, .slice Ap6 N cp6, .int .i64 0, .slice Ap7 200 cp7, .int .i64 1, .slice Ap8 200 cp8, .int .i64 0] 29), ?_, ⟨_, rfl⟩,
      ⟨w'.heap.size, [7, 15, 21, 27, 34, 41, 45, 47, 49].map β, rfl, hf.only.size, rfl, rfl, by simp only [List.map_cons, List.map_nil, ep0, ep1, ep2, ep3, ep4, ep5, ep6, ep7, ep8]; exact Blk.new _ _ _, ?_, hf.apart [7, 15, 21, 27, 34, 41, 45, 47, 49] (by decide) (by kernel_rfl)⟩, (Below.refl _ _).alloc (Nat.le_refl _) _⟩) ?_
    · go_simp
    · have al := (Below.refl w'.heap.size w').alloc (Nat.le_refl _) (.cells #[.slice Ap0 200 cp0, .int .i64 0, .slice Ap1 200 cp1, .int .i64 0, .slice Ap2 200 cp2, .int .i64 0, .slice Ap3 200 cp3, .int .i64 0, .slice Ap4 200 cp4, .int .i64 0, .slice Ap5 200 cp5, .int .i64 0, .slice Ap6 N cp6, .int .i64 0, .slice Ap7 200 cp7, .int .i64 1, .slice Ap8 200 cp8, .int .i64 0] 29)
      intro i x K h1 h2
      match i with
      | 0 => obtain rfl := Option.some.inj h1; obtain rfl := Option.some.inj h2; exact ⟨_, lnF_next (hf.got 7 _ _ rfl (by kernel_rfl)) al⟩
      | 1 => obtain rfl := Option.some.inj h1; obtain rfl := Option.some.inj h2; exact ⟨_, lnF_next (hf.got 15 _ _ rfl (by kernel_rfl)) al⟩
      | 2 => obtain rfl := Option.some.inj h1; obtain rfl := Option.some.inj h2; exact ⟨_, lnF_next (hf.got 21 _ _ rfl (by kernel_rfl)) al⟩
      | 3 => obtain rfl := Option.some.inj h1; obtain rfl := Option.some.inj h2; exact ⟨_, lnF_next (hf.got 27 _ _ rfl (by kernel_rfl)) al⟩
      | 4 => obtain rfl := Option.some.inj h1; obtain rfl := Option.some.inj h2; exact ⟨_, lnF_next (hf.got 34 _ _ rfl (by kernel_rfl)) al⟩
      | 5 => obtain rfl := Option.some.inj h1; obtain rfl := Option.some.inj h2; exact ⟨_, lnF_next (hf.got 41 _ _ rfl (by kernel_rfl)) al⟩
      | 6 => obtain rfl := Option.some.inj h1; obtain rfl := Option.some.inj h2; exact ⟨_, lnF_next (hf.got 45 _ _ rfl (by kernel_rfl)) al⟩
      | 7 => obtain rfl := Option.some.inj h1; obtain rfl := Option.some.inj h2; exact ⟨_, lnF_next (hf.got 47 _ _ rfl (by kernel_rfl)) al⟩
      | 8 => obtain rfl := Option.some.inj h1; obtain rfl := Option.some.inj h2; exact ⟨_, lnF_next (hf.got 49 _ _ rfl (by kernel_rfl)) al⟩
      | m + 9 => simp at h1
    try simp only [Act.put, List.setIfInBounds_toArray, List.set_cons_zero, List.set_cons_succ]
    repeat (
      refine lex_val (v := ?_) rfl rfl (fun w' hf => ?_) ?_
      rotate_left
      · go_simp
        try rfl
      try simp only [Act.put, List.setIfInBounds_toArray, List.set_cons_zero, List.set_cons_succ])
    refine lex_nil fun w5 he => ?_
    have hnf : NinF W4.heap.size [E1, E2, E3, E4, E5, E6, E7, L, L] (β 50) w5 := (he.facts 50).2
    have HE5 := Lib.hid he.only.below0
    obtain ⟨gq, vs, eq, hgB, hgl5, hpl, hvl, hat⟩ := hnf.open_
    rw [en] at eq
    injection eq with eq _ _
    injection eq with eq
    injection eq with eq _ _
    subst eq
    clear he hβ hnf ep0 ep1 ep2 ep3 ep4 ep5 ep6 ep7 ep8 ei HIn HDe HEr HCl HCh HLa HRe HSi HCo
    generalize β 50 = l9 at *
    subst en
    go_wp2_with fail
    have hO5 := owns_kept HO4.out HE5.out
    have hG0 : Grow w5 w5 (w2.heap.size + 1) (.slice (some ⟨w2.heap.size + 1, 0, none⟩) 1 1) 1 [.slice (some ⟨g, 0, none⟩) (200 + 9) (200 + 9)] := ⟨hO5, grown_of_below (Below.refl _ _), fun G _ hne e => hne (by injection e)⟩
    have HG0 := Lib.hid hG0; have HPl := Lib.hid hpl; have HAt := Lib.hid hat; have HGl := Lib.hid hgl5
    have HGB : Hid (w2.heap.size + 2 ≤ gn ∧ w2.heap.size + 2 ≤ w5.heap.size) := Lib.hid ⟨by have := HZ4.out; omega, by have := HZ4.out; have := HE5.out.size; omega⟩
    clear hO5 hG0 hpl hat hgl5 hgB
    go_loopw [8, 79] (fun lv i wr => ∃ k : Nat, k ≤ 9 ∧ i = .int .i64 k ∧ Grow w5 wr (w2.heap.size + 1) lv (k + 1) (.slice (some ⟨g, 0, none⟩) (200 + 9) (200 + 9) :: vs.take k)) (fun _ i _ => 9 - (intOf i).toNat)
    case atStart => exact ⟨0, by omega, rfl, HG0.out⟩
    case round =>
      rename_i lv wr
      obtain ⟨k, hk, rfl, hgw⟩ := hrel
      have HGw := Lib.hid hgw
      clear hgw
      by_cases hlt : k < 9
      · obtain ⟨Ak, ck, zk, Lk, hvk, _, hcell⟩ := HAt.out k hlt
        obtain ⟨c0, c1⟩ := hcell wr (HGw.out.grown.block gn HGl.out (by have := HGB.out.1; intro e; injection e with e; omega))
        have hw : IntKind.i64.wrap ((k : Int) + 1) = (k : Int) + 1 := IntWalk.i64_in _ (by omega)
        have hd : decide ((k : Int) < 9) = true := by simp; omega
        have HTk : Hid (vs.take (k + 1) = vs.take k ++ [.slice Ak Lk.length ck]) := Lib.hid (by rw [List.take_add_one, hvk]; rfl)
        have HGa := Lib.hid (HGw.out.alloc (.cells #[.slice Ak Lk.length ck, .int .i64 zk] 29))
        have hsz : w2.heap.size + 1 ≤ wr.heap.size := by have := HGw.out.grown.size; have := HGB.out.2; omega
        clear hcell hvk
        generalize Lk.length = nk at *
        go_wp2_with (at_builtin; refine wpList_pushA rfl _ _ _ rfl (w2.heap.size + 1) 22 _ 1 24 Tryd.underlying30 info_slc rfl (by decide) _ _ _ rfl HGa.out.own [.slice Ak nk ck] rfl (by simp [Value.oneCell']) _ rfl _ _ _ (by simp) rfl (by unfold maxLen; omega) (by omega) (by simp; omega) ?_; intro v3 w3 hown3 hg3 hb3 hne3)
        go_roundw
        case rel => exact ⟨k + 1, by omega, by first | rfl | go_num, by rw [HTk.out]; exact HGa.out.push hown3 hg3 hne3⟩
        case measure => simp [intOf]; omega
      · obtain rfl : k = 9 := by omega
        obtain ⟨gb, cap, elv, hgb, hgbl⟩ := World.ownsRow.form HGw.out.own (by omega)
        subst elv
        have h9 : vs.take 9 = vs := by rw [List.take_of_length_le (by omega)]
        rw [h9] at HGw
        have hlow : Below (w2.heap.size + 1) w5 wr := (Below.refl _ _).grown HGw.out.grown (by have := HGB.out.2; omega) (fun k hk => by injection hk with e; omega)
        have hlow2 : Below (w2.heap.size + 1) W4 wr := (HE5.out.mono (by have := HZ4.out; omega)).trans hlow
        have hlw : Blk wr w2.heap.size 29 #[.slice (some ⟨g, 0, none⟩) 200 (200 + 9), .int .i64 0] := Blk.below HL4.out hlow2 (by omega)
        have hsw : Blk wr w.heap.size 24 #[.int .i64 f, .int .i64 t, .int .i64 q] := Blk.below HS4.out hlow2 (by have := HGg.out; omega)
        have hrw : Row wr g (spareL L) := Blk.below HRow4.out hlow2 (by have := HGg.out; omega)
        have hplw : PL wr W4.heap.size vs [E1, E2, E3, E4, E5, E6, E7, L, L] := HPl.out.kept (fun i v k hv hk => HGw.out.grown.block k (HPl.out.sized hv hk).2 (by have := (HPl.out.sized hv hk).1; have := HZ4.out; intro e; injection e with e; omega))
        have hri : RCells wr (some ⟨g, 0, none⟩) L := by have := (Row.reads hrw).take L.length; rw [spare_take] at this; exact this
        have HRi2 := Lib.hid hri; have HRw := Lib.hid hrw; have HPlw := Lib.hid hplw
        have HBw : Hid (Below w.heap.size w wr) := Lib.hid (HB4.out.trans (hlow2.mono (by have := HGg.out; omega)))
        have HCc2 : Hid (∀ w', Only [gb] wr w' → (w'.cell? ⟨w2.heap.size, 0, none⟩ = some (.slice (some ⟨g, 0, none⟩) 200 (200 + 9)) ∧ w'.cell? ⟨w2.heap.size, 1, none⟩ = some (.int .i64 0)) ∧ w'.cell? ⟨w.heap.size, 0, none⟩ = some (.int .i64 f) ∧ w'.cell? ⟨w.heap.size, 1, none⟩ = some (.int .i64 t) ∧ w'.cell? ⟨w.heap.size, 2, none⟩ = some (.int .i64 q)) := Lib.hid (fun w' h => ⟨⟨(h.blk hlw (by simp; omega)).cell 0, (h.blk hlw (by simp; omega)).cell 1⟩, (h.blk hsw (by have := HGg.out; simp; omega)).cell 0, (h.blk hsw (by have := HGg.out; simp; omega)).cell 1, (h.blk hsw (by have := HGg.out; simp; omega)).cell 2⟩)
        have hsz5 : w5.heap.size ≤ wr.heap.size := HGw.out.grown.size
        have HGbS : Hid (w2.heap.size + 1 ≤ gb ∧ gb < wr.heap.size ∧ w2.heap.size + 2 ≤ wr.heap.size ∧ W4.heap.size ≤ wr.heap.size) := Lib.hid ⟨hgb, hgbl, by have := HGB.out.2; omega, by have := HE5.out.size; omega⟩
        have HFr : Hid (∀ w', Only [gb] wr w' → RCells w' (some ⟨g, 0, none⟩) L) := Lib.hid (fun w' h => by
          have := (Row.reads (show Row w' g (spareL L) from h.blk HRw.out (by have := HGg.out; have := HGbS.out.1; simp; omega))).take L.length; rw [spare_take] at this; exact this)
        have HNg : Hid (∀ k, k < 9 → True) := Lib.hid (fun _ _ => trivial)
        obtain ⟨i0, hi0, hz0, hz1, hz2⟩ := info_parts info_slc
        have HI := Lib.hid (And.intro hi0 (And.intro hz0 (And.intro hz1 hz2)))
        clear hlow hlow2 hlw hsw hrw hplw hri hgb hgbl hi0 hz0 hz1 hz2 h9 hsz5
        go_wp2_with fail
        refine wp_region_mix_lit (by kernel_rfl) [(6, .fresh (CtP mc) (CtF wr.heap.size E8)), (12, .fresh (CtP mc) (CtF wr.heap.size E8)), (13, .letter TwP (TwF wr.heap.size E8)), (14, .grow gb (ApP 12) (ApF wr.heap.size (w2.heap.size + 1) gb 12 (.slice (some ⟨g, 0, none⟩) (200 + 9) (200 + 9) :: vs) E8))] (by kernel_rfl) (by kernel_rfl) (by kernel_rfl) (by rfl) (by simp [apartK] <;> omega) (by simp [startK]; exact HGbS.out.2.1) (by repeat (first | (refine List.forall_mem_cons.2 ⟨?_, ?_⟩; (first | exact trivial | exact ctF_stab _ _ _ (by simp [boxes, Kind.boxed]) | exact twF_stab _ _ _ (by simp [boxes, Kind.boxed]) | exact apF_stab _ _ _ _ _ _ _ (by simp [boxes, Kind.boxed]))) | (intro x hx; cases hx; done))) (⟨fun i => if i = 13 then .slice (some ⟨0, 0, none⟩) 2 2 else if i = 14 then .slice (some ⟨0, 0, none⟩) 12 0 else .slice (some ⟨0, 0, none⟩) mc mc, by repeat (first | (refine List.forall_mem_cons.2 ⟨?_, ?_⟩; (first | exact trivial | exact ⟨0, rfl⟩ | exact ⟨0, 0, rfl⟩)) | (intro x hx; cases hx; done))⟩) (fun β hβ => ?_)
        obtain ⟨q1, eq1⟩ := (hβ 6 : CtP mc (β 6))
        obtain ⟨q2, eq2⟩ := (hβ 12 : CtP mc (β 12))
        obtain ⟨q3, eq3⟩ := (hβ 13 : TwP (β 13))
        repeat (
          refine lex_val (v := ?_) rfl rfl (fun w' hf => ?_) ?_
          rotate_left
          · obtain ⟨⟨a0, a1⟩, b0, b1, b2⟩ := HCc2.out w' hf.only; go_simp
            try rfl
          try simp only [Act.put, List.setIfInBounds_toArray, List.set_cons_zero, List.set_cons_succ])
        refine lex_fresh (f := 15) (args := ?_) rfl rfl (fun w' hf => ?_) (fun w' hf => ?_) ?_
        rotate_left
        · go_simp
          try rfl
        · exact ct_cut hf.only.size HG8.out (HCu.out _ _ (by omega) w' (HFr.out w' hf.only))
        try simp only [Act.put, List.setIfInBounds_toArray, List.set_cons_zero, List.set_cons_succ]
        repeat (
          refine lex_val (v := ?_) rfl rfl (fun w' hf => ?_) ?_
          rotate_left
          · obtain ⟨⟨a0, a1⟩, b0, b1, b2⟩ := HCc2.out w' hf.only; go_simp
            try rfl
          try simp only [Act.put, List.setIfInBounds_toArray, List.set_cons_zero, List.set_cons_succ])
        refine lex_fresh (f := 15) (args := ?_) rfl rfl (fun w' hf => ?_) (fun w' hf => ?_) ?_
        rotate_left
        · go_simp
          try rfl
        · exact ct_cut hf.only.size HG8.out (HCu.out _ _ (by omega) w' (HFr.out w' hf.only))
        try simp only [Act.put, List.setIfInBounds_toArray, List.set_cons_zero, List.set_cons_succ]
        refine lex_made rfl rfl (fun w' hf => ⟨.slice (some ⟨w'.heap.size, 0, none⟩) 2 2, w'.alloc (.cells #[.slice (some ⟨q1, 0, none⟩) mc mc, .slice (some ⟨q2, 0, none⟩) mc mc] 22), ?_, ⟨_, rfl⟩, ⟨w'.heap.size, β 6, β 12, rfl, hf.only.size, by rw [eq1, eq2]; exact Blk.new _ _ _, CtF.next (hf.got 6 _ _ rfl (by kernel_rfl)) ((Below.refl _ _).alloc (Nat.le_refl _) _), CtF.next (hf.got 12 _ _ rfl (by kernel_rfl)) ((Below.refl _ _).alloc (Nat.le_refl _) _), hf.ne 6 12 rfl rfl (by decide) (by kernel_rfl) (by kernel_rfl)⟩, (Below.refl _ _).alloc (Nat.le_refl _) _⟩) ?_
        · go_simp
        try simp only [Act.put, List.setIfInBounds_toArray, List.set_cons_zero, List.set_cons_succ]
        refine lex_grow (b := gb) rfl rfl (fun w' hf => ?_) ?_
        · obtain ⟨g3, u1, u2, e3, hB3, hb3, hc1, hc2, hn12⟩ := hf.got 13 _ _ rfl (by kernel_rfl)
          rw [eq3] at e3
          injection e3 with e3 _ _
          injection e3 with e3
          injection e3 with e3 _ _
          subst e3
          have hgs := hf.grew 14 gb _ _ rfl (.inl rfl)
          have how := owns_same (w' := w') HGw.out.own (fun k hk => by
            have e : gb = k := Option.some.inj hk
            rw [← e]; exact hgs)
          obtain ⟨gg, cc, w6, hrun, ho6, hg6, hor, hlt6⟩ := run_append_lies (P := Tryd.prog) w' 30 30 (w2.heap.size + 1) 22 i0 _ 1 24 Tryd.underlying30 HI.out.1 HI.out.2.1 HI.out.2.2.1 HI.out.2.2.2 rfl (by decide) _ 10 _ how ⟨q3, 0, none⟩ 2 2 [u1, u2] rfl (fun j u hj => by
            rw [add_cell, hb3.cell, ← Array.getElem?_toList]; exact hj) (by
            obtain ⟨_, ee1, _⟩ := hc1; obtain ⟨_, ee2, _⟩ := hc2
            rw [ee1, ee2]; simp [Value.oneCell']) (by decide) (by unfold maxLen; omega) (by omega) (by have := hf.only.size; have := HGbS.out; omega) w'.heap.size rfl
          have hb6 : ∀ {u : Value}, CtF wr.heap.size E8 u w' → CtF wr.heap.size E8 u w6 := by
            rintro u ⟨gx, ex, hBx, hrx⟩
            exact ⟨gx, ex, hBx, Blk.grown hrx hg6 (fun e => by have e' : gx = gb := Option.some.inj e; have := HGbS.out.2.1; omega)⟩
          refine ⟨_, w6, exec_append (.tmp 89) (.tmp 102) 30 rfl rfl eq3 hrun, ⟨gg, cc, rfl⟩, ⟨u1, u2, ho6, hb6 hc1, hb6 hc2, hn12, fun G hG hne e => ?_, fun k hk => ?_⟩, by simpa [Value.ownBlock] using hg6⟩
          · have e' : G = gg := Option.some.inj e
            rcases hor with e2 | e2
            · have : gb = gg := Option.some.inj e2
              omega
            · have := hf.only.size; omega
          · have e' : gg = k := Option.some.inj hk
            subst e'
            have hin : ∀ {u : Value}, CtF wr.heap.size E8 u w' → gg ∉ blksOf u := by
              rintro u ⟨gx, ex, hBx, hrx⟩ hm
              rw [ex] at hm
              have e4 : gg = gx := by simpa [blksOf, sliceBlk] using hm
              have := Row.lt hrx
              rcases hor with e2 | e2
              · have : gb = gg := Option.some.inj e2
                have := HGbS.out.2.1
                omega
              · omega
            exact ⟨hin hc1, hin hc2⟩
        try simp only [Act.put, List.setIfInBounds_toArray, List.set_cons_zero, List.set_cons_succ]
        repeat (
          refine lex_val (v := ?_) rfl rfl (fun w' hf => ?_) ?_
          rotate_left
          · go_simp
            try rfl
          try simp only [Act.put, List.setIfInBounds_toArray, List.set_cons_zero, List.set_cons_succ])
        refine lex_nil fun w6 he => ?_
        obtain ⟨u1, u2, hap, hc1, hc2, hn12, hfar, hin⟩ := (he.facts 14).2
        have hon := he.only
        obtain ⟨gu, cu, eu⟩ := (he.facts 14).1
        have hlow6 : Below (w2.heap.size + 1) wr w6 := hon.below (B := w2.heap.size + 1) (by have := HGbS.out; omega) (fun k hk => by have e : k = gb := (by simpa [stores, Kind.at_] using hk); have := HGbS.out; omega)
        have hbw6 : Below w.heap.size w w6 := HBw.out.trans (hlow6.mono (by have := HGg.out; omega))
        have hrw6 : Row w6 g (spareL L) := Blk.below HRw.out hlow6 (by have := HGg.out; omega)
        have hpl6 : PL w6 W4.heap.size vs [E1, E2, E3, E4, E5, E6, E7, L, L] := HPlw.out.kept (fun i v k hv hk => hon.block k (HPlw.out.sized hv hk).2 (fun hm => by
          have e : k = gb := by simpa [stores, Kind.at_] using hm
          exact HGw.out.far k (HPl.out.sized hv hk).2 (by have := (HPl.out.sized hv hk).1; have := HZ4.out; omega) (by rw [e]; rfl)))
        rw [eu] at hap hfar hin
        generalize β 14 = b14 at *
        subst eu
        clear he hβ eq1 eq2 eq3 HCc2 HFr
        obtain ⟨p1, ep1, hp1, hrp1⟩ := hc1
        obtain ⟨p2, ep2, hp2, hrp2⟩ := hc2
        have hne12 : p1 ≠ p2 := fun e => hn12 p1 (by rw [ep1]; simp [blksOf, sliceBlk]) (by rw [ep2, e]; simp [blksOf, sliceBlk])
        have hal : OCells w6 w.heap.size (.slice (some ⟨g, 0, none⟩) (spareL L).length (spareL L).length) (spareL L) := ocells_mono (ocells_row (by rw [HSl.out]; have := HN2.out; omega) hrw6) HGg.out.1
        rw [HSl.out] at hal
        have ho1 : OCells w6 w.heap.size u1 E8 := by rw [ep1]; exact ocells_mono (ocells_row (by rw [HG8.out]; have := HMc.out; have := HN2.out; omega) hrp1) (by have := HBw.out.size; omega)
        have ho2 : OCells w6 w.heap.size u2 E8 := by rw [ep2]; exact ocells_mono (ocells_row (by rw [HG8.out]; have := HMc.out; have := HN2.out; omega) hrp2) (by have := HBw.out.size; omega)
        have hpl1 := PL.cons (hpl6.mono (by have := HZ4.out; have := HGg.out; omega : w.heap.size ≤ W4.heap.size)) hal (fun i u k hu hk e => by
          have e' : g = k := Option.some.inj e
          have := (HPl.out.sized hu hk).1; have := HGg.out; have := HZ4.out; omega)
        have hold : ∀ (i : Nat) (u : Value) (k : Nat), (Value.slice (some ⟨g, 0, none⟩) (200 + 9) (200 + 9) :: vs)[i]? = some u → u.ownBlock = some k → k < wr.heap.size ∧ (k = g ∨ W4.heap.size ≤ k) := by
          intro i u k hu hk
          cases i with
          | zero =>
            obtain rfl := Option.some.inj hu
            have e' : g = k := Option.some.inj hk
            subst e'
            exact ⟨Row.lt HRw.out, .inl rfl⟩
          | succ i =>
            have h := HPlw.out.sized (show vs[i]? = some u by simpa using hu) hk
            exact ⟨h.2, .inr h.1⟩
        have hpl2 := PL.snoc hpl1 ho1 (fun i u k hu hk e => by
          rw [ep1] at e
          have e' : p1 = k := Option.some.inj e
          have := (hold i u k hu hk).1; omega)
        have hpl3 := PL.snoc hpl2 ho2 (fun i u k hu hk e => by
          rw [ep2] at e
          have e' : p2 = k := Option.some.inj e
          rcases Nat.lt_or_ge i (Value.slice (some ⟨g, 0, none⟩) (200 + 9) (200 + 9) :: vs).length with hi | hi
          · rw [List.getElem?_append_left hi] at hu
            have := (hold i u k hu hk).1; omega
          · have hi2 := (List.getElem?_eq_some_iff.1 hu).1
            rw [List.length_append, List.length_singleton] at hi2
            obtain rfl : i = (Value.slice (some ⟨g, 0, none⟩) (200 + 9) (200 + 9) :: vs).length := by omega
            rw [List.getElem?_append_right (Nat.le_refl _), Nat.sub_self] at hu
            obtain rfl := Option.some.inj hu
            rw [ep1] at hk
            have e2 : p1 = k := Option.some.inj hk
            exact hne12 (e2.trans e'.symm))
        rw [List.append_assoc] at hpl3
        have hvl12 : (Value.slice (some ⟨g, 0, none⟩) (200 + 9) (200 + 9) :: vs ++ ([u1] ++ [u2])).length = 12 := by simp [hvl]
        have hls := PL.ls (A := some ⟨gu, 0, none⟩) (c := cu) (bo := w2.heap.size + 1) hpl3 (by rw [hvl12]; exact hap) (fun i v k hv hk e => by
          have e' : gu = k := (Option.some.inj e).symm
          subst e'
          rcases Nat.lt_or_ge i (Value.slice (some ⟨g, 0, none⟩) (200 + 9) (200 + 9) :: vs).length with hi | hi
          · rw [List.getElem?_append_left hi] at hv
            obtain ⟨h1, h2⟩ := hold i v gu hv hk
            by_cases e3 : gu = gb
            · rcases h2 with h2 | h2
              · have := HGbS.out; have := HGg.out; omega
              · cases i with
                | zero =>
                  obtain rfl := Option.some.inj hv
                  have e4 : g = gu := Option.some.inj hk
                  have := HGg.out; have := HZ4.out; omega
                | succ i =>
                  exact HGw.out.far gu (HPl.out.sized (show vs[i]? = some v by simpa using hv) hk).2 (by have := HZ4.out; omega) (by rw [e3]; rfl)
            · exact hfar gu h1 e3 rfl
          · have hi2 := (List.getElem?_eq_some_iff.1 hv).1
            rw [List.getElem?_append_right hi] at hv
            have hm := List.mem_of_getElem? hv
            obtain ⟨n1, n2⟩ := hin gu rfl
            simp only [List.cons_append, List.nil_append, List.mem_cons, List.not_mem_nil, or_false] at hm
            rcases hm with rfl | rfl
            · rw [ep1] at hk n1
              have e4 : p1 = gu := Option.some.inj hk
              exact n1 (by rw [e4]; simp [blksOf, sliceBlk])
            · rw [ep2] at hk n2
              have e4 : p2 = gu := Option.some.inj hk
              exact n2 (by rw [e4]; simp [blksOf, sliceBlk]))
        have HLs := Lib.hid hls; have HB6 := Lib.hid hbw6; have HRw6 := Lib.hid hrw6
        have HAp := Lib.hid (fun W h1 h2 => apart_any (some ⟨gu, 0, none⟩) cu w.heap.size (Value.slice (some ⟨g, 0, none⟩) (200 + 9) (200 + 9) :: vs ++ ([u1] ++ [u2])) (spareL L :: [E1, E2, E3, E4, E5, E6, E7, L, L] ++ ([E8] ++ [E8])) (by rw [hvl12]; omega) (fun K hK => by
          have := HSl.out; have := HG1.out; have := HG2.out; have := HG3.out; have := HG4.out; have := HG5.out; have := HG6.out; have := HG7.out; have := HG8.out; have := HLn.out; have := HN2.out; have := HNc.out; have := HMc.out
          simp only [List.cons_append, List.nil_append, List.mem_cons, List.not_mem_nil, or_false] at hK
          rcases hK with rfl | rfl | rfl | rfl | rfl | rfl | rfl | rfl | rfl | rfl | rfl | rfl <;> omega) W h1 h2)
        rw [hvl12] at HAp
        have HRl := Lib.hid (HR.out.next hbw6)
        clear hls hbw6 hrw6 hpl1 hpl2 hpl3 hold ho1 ho2 hal hpl6 hlow6 hon hap hfar hin hn12 hne12 hrp1 hrp2 hp1 hp2 ep1 ep2 hvl12
        go_wp2_with fail
        refine (HKe.out _ _ _ (Row.reads HRw6.out) HRl.out).mono ?_
        rintro e w7 ⟨rfl, hb7⟩
        have HLs7 := Lib.hid (HLs.out.next hb7); have HB7 := Lib.hid (HB6.out.trans (hb7.mono HB6.out.size))
        clear hb7
        go_wp2_with fail
        refine (HAp.out _ HB7.out.size HLs7.out).mono ?_
        rintro e w8 ⟨rfl, hb8⟩
        have hfin : Below w.heap.size w w8 := HB7.out.trans hb8
        clear hb8
        go_wp2_with fail
        go_ret
        exact ⟨rfl, hfin⟩

set_option maxRecDepth 100000 in
/-- What the walk gives, for every argument and every world that holds the table. -/
theorem contract (H : Type) (enc : TypeId × Value → H) (W : World) (base : Nat) (args : Array Value) (ds gs : List (DataW H)) (before : List MemPlace)
    (hval : ∀ (j : Nat) t v, Tryd.f3.params[j]? = some t → args[j]? = some v → Value.okWide Tryd.prog W .any base t v)
    (hW : DataW.Whole enc Tryd.prog Tryd.f3.params.toList Rows.lineKeepsSpec.vars false W args.toList ds gs before) (hL : laidMetH Tryd.prog Rows.lineKeepsRow.laid W)
    (hreach : (DataW.weightsEach Tryd.prog (Tryd.f3.params.toList ++ []) (ds ++ gs)).all (· ≤ reachBytes) = true) :
    Calls Tryd.prog 3 args W fun e W' => ∃ v, e = .returned v ∧ Rows.lineKeepsSpec.post enc Tryd.prog Tryd.f3 false true false false W args v W' := by
  have hW' := hW
  have ht := tab_of hL
  have hlts : ∀ x ∈ before, x.block < W.heap.size := fun x hx => hW'.lt x hx
  obtain ⟨p, q, hA0, hV, rfl, hfz, hnd⟩ := hW
  have hA : DataW.TrodAll enc Tryd.prog W 0 (fun _ => true) true Tryd.f3.params.toList args.toList ds p := hA0
  rw [Tryd.params3] at hA hval hreach
  obtain ⟨v0, vs0, d0, ds0, pp0, qq0, hargs, rfl, rfl, h0, rr0⟩ := trodAll_cons hA
  obtain ⟨v1, vs1, d1, ds1, pp1, qq1, rfl, rfl, rfl, h1, rr1⟩ := trodAll_cons rr0
  obtain ⟨rfl, rfl, rfl⟩ := trodAll_nil rr1
  obtain rfl : args = #[v0, v1] := by cases args; simp_all
  obtain ⟨rfl, rfl⟩ := trodVars_none hV
  obtain ⟨b0, len0, cap0, rfl⟩ := okWide_slice Tryd.underlying22 (hval 0 22 v0 rfl rfl)
  obtain ⟨l0, hlen0, hm0, hc0, ok0, hri0⟩ := cells_in h0
  subst hlen0
  obtain ⟨f1, t1, q1, rfl⟩ := span_in (hval 1 24 v1 rfl rfl) h1
  clear hA0
  refine (walk b0 cap0 l0 hm0 hc0 ok0 f1 t1 q1 W ht hri0).mono fun e W' ⟨he, hb⟩ => ?_
  subst he
  exact ⟨_, rfl, post_law laidOut (by kernel_rfl) (by kernel_rfl) rfl hW' rfl hb⟩

set_option maxRecDepth 100000 in
theorem laid_met (os : Os) : laidMet Tryd.prog Rows.lineKeepsRow.laid ((laidWorld os).forCall (fun _ _ => 0) ⟨#[], #[Value.slice none 0 0, Value.agg #[.int .i64 0, .int .i64 0, .int .i64 0]], []⟩).memory :=
  laidMet_of_run' 8 (by kernel_rfl) (by kernel_rfl)
set_option maxRecDepth 100000 in
theorem reads (os : Os) {H : Type} (enc : TypeId × Value → H) : ∃ places, DataW.whole enc Tryd.prog ((laidWorld os).forCall (fun _ _ => 0) ⟨#[], #[Value.slice none 0 0, Value.agg #[.int .i64 0, .int .i64 0, .int .i64 0]], []⟩).memory Tryd.f3.params.toList Rows.lineKeepsSpec.vars false (#[Value.slice none 0 0, Value.agg #[.int .i64 0, .int .i64 0, .int .i64 0]] : Array Value).toList 8 = some ([.nil, .agg [.lit (.int .i64 0), .lit (.int .i64 0), .lit (.int .i64 0)]], [], places) :=
  ⟨[], by kernel_rfl⟩

set_option maxRecDepth 100000 in
theorem lifted (os : Os) (started : os.Started) (H : Type) (enc : TypeId × Value → H) (F : Stop.Interp) :
    ReturnsInHanded {} Tryd.checked os 3 .any ((OpenSpec.ofChange Rows.lineKeepsSpec).preRow enc Tryd.prog Tryd.f3 Rows.lineKeepsRow.domain false Rows.lineKeepsRow.laid) (((OpenSpec.ofChange Rows.lineKeepsSpec).at F).post enc Tryd.prog Tryd.f3 false true false false) := by
  obtain ⟨places, hx⟩ := reads os enc
  refine returnsInHanded_of_row (C := Tryd.checked) (s := OpenSpec.ofChange Rows.lineKeepsSpec) own started (by kernel_rfl) Tryd.func3
    (witness_row_at (enc := enc) (C := Tryd.checked) false (laidWorld os) #[Value.slice none 0 0, Value.agg #[.int .i64 0, .int .i64 0, .int .i64 0]] rfl (by kernel_rfl) (by kernel_rfl) (by kernel_rfl)
      (OpenSpec.preRow_of_cond 8 hx (by kernel_rfl) (fun k hk => by cases hk) (by kernel_rfl) (laid_met os))) ?_
  intro W base args ds gs before hval hW _ _ hreach hL _ _
  exact contract H enc W base args ds gs before hval hW hL hreach

theorem said : Rows.LineKeepsSaid :=
  OpenClaim.holds_of_cond 3 Tryd.f3 rfl rfl rfl rfl rfl rfl rfl ⟨rfl, rfl, rfl, rfl, rfl⟩ rfl rfl rfl rfl rfl (by kernel_rfl) Tryd.func3 (by kernel_rfl)
    (of_decide_eq_true (by kernel_rfl)) (by unfold Func.isWrapper; first | (rw [if_pos (by decide +kernel)]; kernel_rfl) | (rw [if_neg (by decide +kernel)]; exact ⟨rfl, rfl⟩))
    (fun os started H enc _ F => by rw [OpenClaim.pre_eq_preRow]; exact lifted os started H enc F)

theorem plain (f : FuncId) (fn : Func) (hf : Tryd.pinned.checked.prog.funcNamed "phosphor/phosphorlaw03.LineKeeps" = some f) (hfn : Tryd.pinned.checked.prog.funcs[f]? = some fn) :
    false = Tryd.pinned.checked.prog.looks [] ∧ ∀ (j : Nat) t, fn.params[j]? = some t → Tryd.pinned.checked.prog.wantsStandIn t = false := by
  obtain rfl : f = 3 := Option.some.inj ((show Tryd.prog.funcNamed "phosphor/phosphorlaw03.LineKeeps" = some 3 by kernel_rfl).symm.trans hf) |>.symm
  obtain rfl : fn = Tryd.f3 := (Option.some.inj (Tryd.func3.symm.trans hfn)).symm
  refine ⟨by kernel_rfl, fun j t ht => ?_⟩
  rw [Tryd.params3] at ht
  have hm : t ∈ [22, 24] := by simpa using Array.mem_of_getElem? ht
  have hall : ([22, 24].all fun u => !Tryd.prog.wantsStandIn u) = true := by kernel_rfl
  exact (show Tryd.prog.wantsStandIn t = false by simpa using List.all_eq_true.1 hall t hm)

/-- The card. -/
theorem card : Rows.LineKeepsCardSaid :=
  Claim7.holds_tied_plain_at .later [] _ _ _ _ said (fun _ h => by cases h) (by kernel_rfl) (fun _ h => by cases h) lineKeeps_row_tie rfl ⟨rfl, rfl⟩ (by kernel_rfl) rfl plain (by kernel_rfl)
#print axioms card
end Go.Proofs.YtbndnaohjloanaaDoor.lineKeeps

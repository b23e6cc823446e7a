/-
  The walks of lines: a copy of cells, a line like another.
-/
import Derived.Test.YtbndnaohjloanaaDoorClB
import Derived.Test.YtbndnaohjloanaaDoorCopyN
namespace Go.Proofs.YtbndnaohjloanaaDoor

open Go.RowKit

/-- A block that holds just these cells. -/
def Row (w : World) (g : Nat) (l : List Cl) : Prop := Blk w g 45 (l.flatMap Cl.cells).toArray
/-- A line as it is handed over. -/
def lineV (A : Option Addr) (n c : Nat) (size : Int) : Value := .agg #[.slice A n c, .int .i64 size]
theorem own_blkN {w : World} {base g n s : Nat} {e : TypeId} {xs : List Value} (h : w.ownsRow base e s (.slice (some ⟨g, 0, none⟩) n n) n xs) : Blk w g e xs.toArray := by
  rcases h.2 with ⟨hv, _⟩ | ⟨g', cap, cur, hv, _, hg, _, _, hs, ht⟩
  · cases hv
  · simp only [Value.slice.injEq, Option.some.injEq, Addr.mk.injEq, and_true, true_and] at hv
    obtain ⟨rfl, rfl⟩ := hv
    have : cur.toList = xs := by rw [← ht]; exact (List.take_of_length_le (by simp; omega)).symm
    unfold Blk
    rw [hg, ← this]
theorem Row.lt {w : World} {g : Nat} {l : List Cl} (h : Row w g l) : g < w.heap.size := Blk.lt h
theorem Row.next {w w' : World} {g : Nat} {l : List Cl} (h : Row w g l) (hb : Below w.heap.size w w') : Row w' g l := Blk.next h hb
theorem add_cell (g j : Nat) : (⟨g, 0, none⟩ : Addr).add j = ⟨g, j, none⟩ := by unfold Addr.add; split <;> simp_all
theorem Row.reads {w : World} {g : Nat} {l : List Cl} (h : Row w g l) : RCells w (some ⟨g, 0, none⟩) l := by
  refine ⟨flat_len _, fun _ => ⟨_, rfl, h.lt, fun j u hu => ?_⟩⟩
  rw [add_cell, Blk.cell h j]
  simpa using hu
theorem splice_row {α : Type} (L cs : List α) (h : cs.length = L.length) : splice L 0 cs = cs := by simp [splice, h]
theorem below_none {B : Nat} {w w' : World} (h : w.grownBy w' none) (hB : B ≤ w.heap.size) : Below B w w' := (Below.refl _ _).grown h hB (fun k hk => by cases hk)
theorem made_len (z : Array Value) (n : Nat) : (madeCells z n).toList.length = n := by simp [madeCells]

set_option maxRecDepth 100000 in
set_option maxHeartbeats 1000000 in
theorem copied_any (A : Option Addr) (c : Nat) (l : List Cl) (hl : l.length ≤ 100000) (w : World) (hr : RCells w A l) :
    Calls Tryd.prog 29 #[.slice A l.length c] w fun e w' => e = .returned (.slice (some ⟨w.heap.size, 0, none⟩) l.length l.length) ∧ Row w' w.heap.size l ∧ Below w.heap.size w w' := by
  obtain ⟨i0, hi0, hz0, hz1, hz2⟩ := info_parts info_cell
  have HI := Lib.hid hi0; have HZ0 := Lib.hid hz0; have HZ1 := Lib.hid hz1; have HZ2 := Lib.hid hz2
  clear hi0 hz0 hz1 hz2
  have HR := Lib.hid hr
  clear hr
  have HF : Hid ((l.flatMap Cl.cells).length = Nat.min l.length l.length * 3) := Lib.hid (by rw [flat_len]; simp)
  go_enter Tryd.func29, Tryd.ntmps29
  go_wp2_with (first
    | (at_make; refine wpList_make_full _ rfl _ _ 22 rfl w.heap.size 45 i0 _ 3 Tryd.underlying22 HI.out HZ0.out HZ1.out _ _ _ _ l.length rfl rfl rfl rfl (by rw [HZ2.out]; omega) (by unfold maxLen; omega) (Nat.le_refl _) ?_; intro w1 hown hgr; have HOwn := Lib.hid hown; have HB1 := Lib.hid (below_none hgr (Nat.le_refl _)); clear hown hgr)
    | (refine wpList_copy_n (o := ⟨some 9, _, _, _, _, _⟩) rfl (.tmp 7) (.tmp 8) 22 22 rfl 45 3 (by decide) Tryd.underlying22 (by kernel_rfl) _ _ _ _ _ _ rfl rfl w.heap.size 0 _ 45 (own_blkN HOwn.out) (l.flatMap Cl.cells) HF.out (fun hpos => ⟨rfl, by obtain ⟨ad, rfl, _, hcell⟩ := (HR.out.next HB1.out).2 (by rw [flat_len] at hpos; omega); exact ⟨ad, rfl, hcell⟩⟩) (by rw [made_len, flat_len]; omega) (cells_one l) w.heap.size w HB1.out (Nat.le_refl _) ?_; intro w2 hblk2 hb2 hg2))
  go_ret
  have h2 := hblk2.out
  rw [splice_row _ _ (by rw [made_len, flat_len])] at h2
  exact ⟨rfl, h2, hb2⟩

/-- What is known of a world in the midst of such a call: the line's box, and the box of what is answered. -/
def KL (w : World) (x y : Array Value) (w' : World) : Prop := Blk w' w.heap.size 29 x ∧ Blk w' (w.heap.size + 1) 29 y ∧ Below w.heap.size w w'
theorem KL.start (w : World) (x y : Array Value) : KL w x y ((w.alloc (.cells x 29)).alloc (.cells y 29)) :=
  ⟨(Blk.new w _ x).alloc _, by have := Blk.new (w.alloc (.cells x 29)) 29 y; simpa using this, ((Below.refl _ _).alloc (Nat.le_refl _) _).alloc (by simp) _⟩
theorem KL.next {w W w' : World} {x y : Array Value} (h : KL w x y W) (hb : Below W.heap.size W w') : KL w x y w' := ⟨h.1.next hb, h.2.1.next hb, h.2.2.trans (hb.mono h.2.2.size)⟩
theorem KL.drew {w W : World} {x y : Array Value} (h : KL w x y W) : KL w x y W.drew := ⟨h.1, h.2.1, h.2.2.drew⟩
theorem KL.cells {w W : World} {a b c d : Value} (h : KL w #[a, b] #[c, d] W) :
    W.cell? ⟨w.heap.size, 0, none⟩ = some a ∧ W.cell? ⟨w.heap.size, 1, none⟩ = some b ∧ W.cell? ⟨w.heap.size + 1, 0, none⟩ = some c ∧ W.cell? ⟨w.heap.size + 1, 1, none⟩ = some d ∧ W.frozen? ⟨w.heap.size + 1, 0, none⟩ = false ∧ W.frozen? ⟨w.heap.size + 1, 1, none⟩ = false :=
  ⟨h.1.cell 0, h.1.cell 1, h.2.1.cell 0, h.2.1.cell 1, h.2.1.frozen 0, h.2.1.frozen 1⟩
theorem KL.two {w W : World} {a b c d : Value} (h : KL w #[a, b] #[c, d] W) : W.cell? ⟨w.heap.size, 0, none⟩ = some a ∧ W.cell? ⟨w.heap.size, 1, none⟩ = some b := ⟨h.1.cell 0, h.1.cell 1⟩
set_option maxRecDepth 100000 in
set_option maxHeartbeats 1000000 in
theorem copy_any (A : Option Addr) (c : Nat) (l : List Cl) (size : Int) (hl : l.length ≤ 100000) (w : World) (hr : RCells w A l) :
    Calls Tryd.prog 14 #[lineV A l.length c size] w fun e w' => ∃ g, w.heap.size ≤ g ∧ e = .returned (lineV (some ⟨g, 0, none⟩) l.length l.length size) ∧ Row w' g l ∧ Below w.heap.size w w' := by
  have HC := Lib.hid (fun W h => copied_any A c l hl W h)
  have HR := Lib.hid hr
  clear hr
  unfold lineV
  generalize l.length = n at *
  have HK := Lib.hid (KL.start w #[.slice A n c, .int .i64 size] #[.slice none 0 0, .int .i64 0])
  obtain ⟨c0, c1, c2, c3, f2, f3⟩ := KL.cells HK.out
  go_enter Tryd.func14, Tryd.ntmps14
  go_wp2_with fail
  clear c0 c1 c2 c3 f2 f3
  go_region_held3 (fun w' => w'.cell? ⟨w.heap.size, 0, none⟩ = some (.slice A n c) ∧ w'.cell? ⟨w.heap.size, 1, none⟩ = some (.int .i64 size)) (first | go_keep | exact KL.two (Hid.out ‹Hid (KL w _ _ w1)›))
    (first | (go_at_call 29; refine (HC.out _ ?_).mono ?_; (exact HR.out.next (by first | exact HK.out.2.2 | exact HK.out.2.2.drew)); rintro e w1 ⟨rfl, hrow, hb1⟩; have L1 : KL w #[.slice A n c, .int .i64 size] #[.slice none 0 0, .int .i64 0] w1 := KL.next (by first | exact HK.out | exact HK.out.drew) hb1; have HL1 := Lib.hid L1; have HRow := Lib.hid hrow; have HB1 := Lib.hid hb1; clear L1 hrow; obtain ⟨hc1, hf1⟩ := bcell hb1))
  all_goals
    have h2 : Row w1 (w.heap.size + 1 + 1) l := by simpa using HRow.out
    have HR2 := Lib.hid h2
    have hb2 := (HL1.out.2.1.set_ 0 (.slice (some ⟨w.heap.size + 1 + 1, 0, none⟩) n n)).set_ 1 (.int .i64 size)
    have e0 : ((w1.setCell ⟨w.heap.size + 1, 0, none⟩ (.slice (some ⟨w.heap.size + 1 + 1, 0, none⟩) n n)).setCell ⟨w.heap.size + 1, 1, none⟩ (.int .i64 size)).cell? ⟨w.heap.size + 1, 0, none⟩ = some (.slice (some ⟨w.heap.size + 1 + 1, 0, none⟩) n n) := hb2.cell 0
    have e1 : ((w1.setCell ⟨w.heap.size + 1, 0, none⟩ (.slice (some ⟨w.heap.size + 1 + 1, 0, none⟩) n n)).setCell ⟨w.heap.size + 1, 1, none⟩ (.int .i64 size)).cell? ⟨w.heap.size + 1, 1, none⟩ = some (.int .i64 size) := hb2.cell 1
    have HB2 := Lib.hid (show Below w.heap.size w ((w1.setCell ⟨w.heap.size + 1, 0, none⟩ (.slice (some ⟨w.heap.size + 1 + 1, 0, none⟩) n n)).setCell ⟨w.heap.size + 1, 1, none⟩ (.int .i64 size)) from (HL1.out.2.2.setCell (by simp) _).setCell (by simp) _)
    have HR3 := Lib.hid (show Row ((w1.setCell ⟨w.heap.size + 1, 0, none⟩ (.slice (some ⟨w.heap.size + 1 + 1, 0, none⟩) n n)).setCell ⟨w.heap.size + 1, 1, none⟩ (.int .i64 size)) (w.heap.size + 1 + 1) l from Blk.far (Blk.far HR2.out (by simp) _) (by simp) _)
    clear h2 HRow HB1 hb1 hb2 hc1 hf1 HR2 HL1
    generalize ((w1.setCell ⟨w.heap.size + 1, 0, none⟩ (.slice (some ⟨w.heap.size + 1 + 1, 0, none⟩) n n)).setCell ⟨w.heap.size + 1, 1, none⟩ (.int .i64 size)) = W at *
    go_wp2_with fail
    exact bodyPost_ret (v := .agg #[.slice (some ⟨w.heap.size + 1 + 1, 0, none⟩) n n, .int .i64 size]) (by simp [results, Tryd.results14, go_sem, e0, e1]) rfl ⟨w.heap.size + 1 + 1, by omega, rfl, HR3.out, HB2.out⟩
end Go.Proofs.YtbndnaohjloanaaDoor
